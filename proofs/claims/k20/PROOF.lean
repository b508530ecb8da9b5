import PyProof.Rows.All
import Wide.All
import OpenK.AllK
import Wide.FinOn
import Lean
import PyProof.EqAt
import PyProof.EqKinds
import PyProof.TupleCall
import PyProof.ZipIter
import PyProof.ListNew
import PyProof.TupleIter
import PyProof.WalksMore
import PyProof.AttrMissHeap
import PyProof.NeKinds
import PyProof.EnumStmt
import PyProof.Rows.ZipGen
import PyProof.EnumFor
import PyProof.ConsumeWalk
import PyProof.StrWalks
import PyProof.FString5
import PyProof.TupleKey
import PyProof.DictRoadsH
import PyProof.Rows.TupTab
import PyProof.ReprStr
import PyProof.StrLawsRepr
import PyProof.ListMulRoad
import PyProof.StrOps2
import PyProof.MeetsDict
import KE.KRevIter
import PySem.Challenge.RW_scoreflow_k20_whole_counted_apart
set_option compiler.extract_closed false
set_option Elab.async false
set_option linter.all false
set_option maxRecDepth 100000
abbrev Yr:=@Bool.and_eq_true
abbrev Qs:=@Bool.eq_false_iff
abbrev Yq:=@Bool.eq_iff_iff
abbrev YO:=@Bool.false_eq_true
abbrev yw:=@Bool.false_ne_true
abbrev Qc:=@Int.eq_ofNat_of_zero_le
abbrev y7:=@Int.fdiv_eq_ediv_of_nonneg
abbrev Qp:=@Int.fmod_eq_emod_of_nonneg
abbrev yz:=@Int.le_of_lt
abbrev QK:=@Int.mul_ediv_cancel_left
abbrev jm:=@Int.mul_pos
abbrev jk:=@Int.natAbs_natCast
abbrev qX:=@Int.natCast_ediv
abbrev Qe:=@Int.toNat_natCast
abbrev Ja:=@List.any_cons
abbrev y9:=@List.append_nil
abbrev QO:=@List.cons_append
abbrev qe:=@List.ext_getElem?
abbrev Yy:=@List.filter_append
abbrev Yp:=@List.filter_cons_of_neg
abbrev Yl:=@List.filter_cons_of_pos
abbrev Ys:=@List.find?_cons
abbrev qg:=@List.foldl_append
abbrev YQ:=@List.foldl_cons
abbrev jV:=@List.forIn_cons
abbrev yM:=@List.getD_eq_getElem?_getD
abbrev qq:=@List.getElem?_append_left
abbrev qa:=@List.getElem?_append_right
abbrev ym:=@List.getElem?_eq_getElem
abbrev yt:=@List.getElem?_eq_none_iff
abbrev yh:=@List.getElem?_eq_some_iff
abbrev yl:=@List.getElem?_map
abbrev qO:=@List.getElem?_range
abbrev Qm:=@List.getElem?_replicate
abbrev Y3:=@List.getElem?_set
abbrev YW:=@List.getElem?_set_ne
abbrev YE:=@List.getElem?_zip_eq_some
abbrev QV:=@List.idxOf_lt_length_iff
abbrev Yh:=@List.length_append
abbrev yI:=@List.length_cons
abbrev Ym:=@List.length_filter_le
abbrev yf:=@List.length_map
abbrev jK:=@List.length_mapIdx
abbrev Qd:=@List.length_nil
abbrev qZ:=@List.length_range
abbrev qy:=@List.length_replicate
abbrev y6:=@List.length_take
abbrev YG:=@List.length_zip
abbrev Yd:=@List.lookup_cons
abbrev yr:=@List.map_append
abbrev Qy:=@List.map_congr_left
abbrev yy:=@List.map_cons
abbrev Yx:=@List.map_map
abbrev QB:=@List.map_nil
abbrev qb:=@List.mem_append
abbrev Yw:=@List.mem_append_left
abbrev yS:=@List.mem_append_right
abbrev yP:=@List.mem_cons
abbrev yc:=@List.mem_cons_of_mem
abbrev yp:=@List.mem_cons_self
abbrev Yj:=@List.mem_filter
abbrev yx:=@List.mem_map
abbrev yq:=@List.mem_of_getElem?
abbrev jL:=@List.mem_range
abbrev yD:=@List.mem_singleton
abbrev qh:=@List.nodup_append
abbrev Yc:=@List.nodup_cons
abbrev qd:=@List.nodup_iff_pairwise_ne
abbrev qc:=@List.not_mem_nil
abbrev jU:=@List.of_mem_zip
abbrev qv:=@List.perm_middle
abbrev QA:=@List.range_succ
abbrev yJ:=@List.size_toArray
abbrev qA:=@List.sum_cons
abbrev yK:=@List.take_length
abbrev yU:=@List.zip_cons_cons
abbrev QX:=@Nat.add_sub_cancel_left
abbrev qV:=@Nat.le_add_right
abbrev QP:=@Nat.le_max_left
abbrev Q0:=@Nat.le_max_right
abbrev YI:=@Nat.le_of_ble_eq_true
abbrev yo:=@Nat.le_refl
abbrev Ye:=@Nat.le_trans
abbrev Qv:=@Nat.lt_irrefl
abbrev Qx:=@Nat.lt_of_le_of_lt
abbrev yE:=@Nat.lt_of_lt_of_le
abbrev YK:=@Nat.mul_div_cancel_left
abbrev qK:=@Nat.mul_le_mul
abbrev qN:=@Nat.ne_of_gt
abbrev yQ:=@Nat.ne_of_lt
abbrev QH:=@Nat.pow_le_pow_right
abbrev YV:=@Nat.zero_add
abbrev qU:=@Nat.zero_le
abbrev jn:=@Option.isSome_iff_exists
abbrev yX:=@Option.map_eq_some_iff
abbrev Qh:=@Rat.div_def
abbrev Yu:=@Rat.le_of_lt
abbrev QC:=@Rat.mul_nonneg
abbrev qw:=@Rat.num_divInt_den
section
open PySem PySem.Spec PyProof.Rows
abbrev yk:=@Heap.get?_push_of_some
abbrev yu:=@Heap.get?_push_size
abbrev yj:=@Heap.lt_size
abbrev yC:=@decide_eq_false
abbrev yO:=@decide_eq_true
abbrev YZ:=@decide_eq_true_eq
abbrev yd:=@if_neg
abbrev ye:=@if_pos
abbrev ya:=@wpAny_bind
abbrev YM:=@wpAny_field
abbrev Yt:=@wpAny_holding
abbrev YF:=@wpAny_mono
abbrev YJ:=@wpAny_nextOf_list_item
abbrev yg:=@wpAny_pure
abbrev YR:=@wpAny_setField_rec
abbrev Y1:=@wpAny_truthy_bool
end
namespace L2
open PySem
def qJ (s:Stmt)(j:Nat):Stmt:=match s with
 |.ClassDef _ _ _ body _ _ _ _ _ _ _=>body.getD j (.Pass ⟨0,0,0,0⟩)
 |_=>.Pass ⟨0,0,0,0⟩
def jg (s:Stmt):Arguments:=match s with
 |.FunctionDef _ a _ _ _ _ _ _ _ _=>a
 |_=>{posonlyargs:=[],args:=[],vararg:=none,kwonlyargs:=[],kw_defaults:=[],kwarg:=none,defaults:=[]}
def YT (s:Stmt):List Stmt:=match s with
 |.FunctionDef _ _ b _ _ _ _ _ _ _=>b
 |_=>[]
def yi (s:Stmt):Scope:=match s with
 |.FunctionDef _ _ _ _ _ _ sc _ _ _=>sc
 |_=>{kind:=.function,names:=[],isGenerator:=false,isCoroutine:=false}
end L2
namespace Law
open PySem L2
def top (i:Nat):Stmt:=PySem.Challenge.pw_scoreflow_k20_whole_counted_apart.main.body.getD i (.Pass ⟨0,0,0,0⟩)
abbrev e7:Stmt:=top 0
abbrev Qf:Stmt:=top 10
abbrev Zv:Stmt:=top 11
abbrev Zz:Stmt:=top 12
abbrev Jx:Stmt:=top 13
abbrev vN:Stmt:=top 14
abbrev Zf:Stmt:=top 15
abbrev qx:Stmt:=top 16
abbrev J7:Stmt:=top 17
abbrev qC:Stmt:=qJ (top 22) 0
abbrev Qu:Stmt:=qJ (top 22) 1
abbrev Qr:Stmt:=qJ (top 22) 2
abbrev Qt:Stmt:=qJ (top 22) 3
abbrev QQ:Stmt:=qJ (top 22) 4
abbrev Q6:Stmt:=top 23
abbrev jF:Stmt:=top 24
abbrev QT:Stmt:=top 25
abbrev jx:Stmt:=top 26
abbrev j9:Stmt:=top 27
abbrev Q5:Stmt:=top 28
abbrev jE:Stmt:=top 29
abbrev JF:Stmt:=top 30
abbrev Jy:Stmt:=top 31
abbrev qY:Stmt:=top 32
abbrev Qi:Stmt:=top 33
abbrev jq:Stmt:=top 35
abbrev qI:Stmt:=top 37
abbrev qG:Stmt:=top 38
abbrev zl:Stmt:=top 39
abbrev J8:Stmt:=top 40
abbrev qz:Stmt:=qJ (top 42) 0
abbrev Q8:Stmt:=qJ (top 42) 1
abbrev jJ:Stmt:=qJ (top 42) 2
abbrev Qz:Stmt:=qJ (top 42) 3
abbrev QM:Stmt:=qJ (top 42) 4
abbrev jD:Stmt:=qJ (top 42) 5
abbrev qo:Stmt:=qJ (top 42) 6
abbrev Ji:Stmt:=qJ (top 42) 7
abbrev jM:Stmt:=top 43
abbrev Zn:Stmt:=top 44
abbrev js:Stmt:=top 45
abbrev QN:Stmt:=qJ (top 47) 0
abbrev jt:Stmt:=qJ (top 47) 1
abbrev Wd:Stmt:=qJ (top 47) 2
abbrev jH:Stmt:=qJ (top 47) 3
abbrev Jj:Stmt:=qJ (top 47) 4
abbrev Y9:Stmt:=qJ (top 47) 5
abbrev qu:Stmt:=qJ (top 47) 6
abbrev Yv:Stmt:=qJ (top 47) 7
abbrev vt:Stmt:=top 49
abbrev vp:Stmt:=top 50
abbrev jv:Stmt:=top 51
abbrev jp:Stmt:=top 52
abbrev jT:Stmt:=top 54
abbrev Q7:Stmt:=top 55
abbrev Jb:Stmt:=top 56
abbrev jN:Stmt:=top 59
abbrev Z6:Stmt:=top 60
noncomputable abbrev fO (n q:Str)(s:Stmt)(m:Value)(a:Addr):Obj:={cls:=.type "function", dict:=.none,data:=.func (W.fnOf n q (L2.jg s) (L2.YT s) (L2.yi s) .none .none .none m .none (.ref a) .none),slots:=#[]}
noncomputable abbrev cO (x y:Str)(a b c:Nat)(l i j k m:Int)(r:Addr)(t:Bool)(g:Int)(u:Addr)(v v1 v2 v3:Value)(h:Int)(d:Nat):Obj:={cls:=.type "code", data:=.fields #[.str x a,.str y b,.str "/claim/cut.py" c,.int l 0,.int i 0,.int j 0,.int k 0,.int m 0,.ref r,.bool t,.int g 0,.ref u,v,v1,v2,v3,.int h 0,.int l 0,.str "/claim/cut.py" d]}
noncomputable abbrev dO (a:Array DictEntry)(n:Nat):Obj:={cls:=.type "dict", data:=.dict a n}
noncomputable abbrev uO (i:Addr):Obj:={cls:=.type "super", data:=.fields #[.ref i,.ref i,.ref i]}
noncomputable abbrev zJ (s:String)(v:Value):Obj:={cls:=.type "builtin_function_or_method", data:=.fields #[.builtin s,v]}
noncomputable abbrev mO (a b c:Addr)(v:Value):Obj:={cls:=.type "frame", slots:=#[.some (.ref a),.some (.ref b),.some (.ref c),.none,.some v,.none,.some (.ref 0)]}
noncomputable abbrev nO:Obj:={cls:=.none,data:=.fields #[]}
noncomputable abbrev tO (a:Array Value):Obj:={cls:=.type "tuple", data:=.seq a}
noncomputable abbrev cQ (x y:Str)(a:Nat)(l i:Int)(r:Addr)(v v2 v3:Value)(h:Int)(d:Nat):Obj:=cO x y a (a+1) (a+2) l i 0 0 3 r true 181 (r+1) .none v v2 v3 h d
noncomputable abbrev cR (x:Str):=cQ x x
noncomputable abbrev fN (x:Str):=fO x x
noncomputable abbrev mVA:Value:=.str "scoreflow.grammar" 362
noncomputable abbrev mVB:Value:=.str "scoreflow.errors" 194
noncomputable abbrev mVC:Value:=.str "scoreflow.sums" 550
noncomputable abbrev mVD:Value:=.str "scoreflow.parts" 673
noncomputable abbrev mVE:Value:=.str "scoreflow.shares" 278
noncomputable abbrev mVF:Value:=.str "law_scoreflow_k20_whole_counted_apart" 817
noncomputable abbrev mVG:Value:=.str "scoreflow.solving" 522
noncomputable abbrev mVH:Value:=.str "scoreflow.learning" 771
noncomputable def en (P:Params)(x:Str)(t:Nat)(v:Value):DictEntry:={hash:=PyData.keyHash P x,key:=.str x t,val:=v}
noncomputable def KP:Params->W.Frag:=fun P=>
 (nat_lit 2,{cls:=.none,data:=.dict #[]})::
 (nat_lit 3,dO #[en P "__name__" 165 mVF,en P "__doc__" 166 (.none),en P "__package__" 167 (.none),en P "__loader__" 168 (.builtin "__main__.__loader__#opaque"),en P "__spec__" 169 (.none),en P "__annotations__" 170 (.ref 6),en P "__builtins__" 171 (.ref 4),en P "__file__" 173 (.str "/claim/cut.py" 172),en P "__cached__" 174 (.none),en P "_wall" 193 (.ref 21),en P "ScoreError" 213 (.ref 31),en P "NoShare" 229 (.ref 44),en P "NoEnd" 245 (.ref 56),en P "NoGrammar" 261 (.ref 68),en P "NoTree" 277 (.ref 80),en P "NOUGHT" 282 (.ref 83),en P "ONE" 285 (.ref 84),en P "common_divisor" 294 (.ref 91),en P "share" 303 (.ref 98),en P "added" 314 (.ref 105),en P "lessened" 322 (.ref 112),en P "timed" 332 (.ref 119),en P "parted" 340 (.ref 126),en P "sum_of_products" 353 (.ref 133),en P "is_less" 361 (.ref 140),en P "MOST_RULES" 365 (.int 30 364),en P "MOST_SYMBOLS" 367 (.int 4 366),en P "MOST_LETTERS" 369 (.int 8 368),en P "Grammar" 430 (.ref 185),en P "check_rules" 439 (.ref 196),en P "check_rule" 447 (.ref 203),en P "check_symbol" 454 (.ref 210),en P "is_symbol" 460 (.ref 215),en P "is_letter" 467 (.ref 222),en P "check_start" 475 (.ref 229),en P "check_sums" 486 (.ref 236),en P "heads_of" 495 (.ref 243),en P "live_of" 501 (.ref 248),en P "has_live_body" 507 (.ref 253),en P "is_live_body" 513 (.ref 258),en P "stretches" 521 (.ref 263),en P "solved_rows" 529 (.ref 268),en P "without_itself" 535 (.ref 273),en P "put_in" 541 (.ref 278),en P "cleared" 549 (.ref 285),en P "Sums" 652 (.ref 347),en P "live_rules" 658 (.ref 356),en P "is_step" 666 (.ref 363),en P "chains_of" 672 (.ref 368),en P "Parts" 770 (.ref 428),en P "likely" 785 (.ref 439),en P "learnt" 799 (.ref 446),en P "counts_of" 805 (.ref 451),en P "sums_by_head" 816 (.ref 458),en P "_law_cell_at" 826 (.ref 465),en P "_law_symbols" 842 (.ref 472),en P "_law_share" 853 (.ref 479),en P "_law_added" 861 (.ref 486),en P "_law_timed" 869 (.ref 493),en P "_law_shared" 875 (.ref 498),en P "law" 881 (.ref 503)] 61)::
 (nat_lit 20,cR "_wall" 187 1 1 15 (.ref 17) (.ref 18) (.ref 19) 191 192 )::
 (nat_lit 21,fN "_wall" e7 (.str "__main__" 164) 20)::
 (nat_lit 30,dO #[en P "__module__" 203 mVB,en P "__firstlineno__" 207 (.int 5 206),en P "__static_attributes__" 208 (.ref 29),en P "__weakref__" 210 (.ref 32),en P "__doc__" 211 (.none)] 3)::
 (nat_lit 31,{cls:=.type "type", data:=.cls {name:="ScoreError", bases:=[.type "ValueError"],mro:=[.ref 31,.type "ValueError", .type "Exception", .type "BaseException", .type "object"],ns:=30,qualname:="ScoreError", subclasses:=[.ref 44,.ref 56,.ref 68,.ref 80]},slots:=#[.some (.ref 22),.none,.some (.str "ScoreError" 196),.some (.str "ScoreError" 204),.some (.builtin "ValueError.__new__"),.some (.bool Bool.true)]})::
 (nat_lit 32,{cls:=.type "getset_descriptor", data:=.fields #[.str "__weakref__" 209,.ref 31,.builtin "ExceptionGroup.__weakref__", .none]})::
 (nat_lit 43,dO #[en P "__module__" 221 mVB,en P "__firstlineno__" 225 (.int 7 224),en P "__static_attributes__" 226 (.ref 42),en P "__doc__" 227 (.none)] 2)::
 (nat_lit 44,{cls:=.type "type", data:=.cls {name:="NoShare", bases:=[.ref 31],mro:=[.ref 44,.ref 31,.type "ValueError", .type "Exception", .type "BaseException", .type "object"],ns:=43,qualname:="NoShare" },slots:=#[.some (.ref 35),.none,.some (.str "NoShare" 214),.some (.str "NoShare" 222),.some (.builtin "ValueError.__new__"),.some (.bool Bool.true)]})::
 (nat_lit 55,dO #[en P "__module__" 237 mVB,en P "__firstlineno__" 241 (.int 9 240),en P "__static_attributes__" 242 (.ref 54),en P "__doc__" 243 (.none)] 2)::
 (nat_lit 56,{cls:=.type "type", data:=.cls {name:="NoEnd", bases:=[.ref 31],mro:=[.ref 56,.ref 31,.type "ValueError", .type "Exception", .type "BaseException", .type "object"],ns:=55,qualname:="NoEnd" },slots:=#[.some (.ref 47),.none,.some (.str "NoEnd" 230),.some (.str "NoEnd" 238),.some (.builtin "ValueError.__new__"),.some (.bool Bool.true)]})::
 (nat_lit 67,dO #[en P "__module__" 253 mVB,en P "__firstlineno__" 257 (.int 11 256),en P "__static_attributes__" 258 (.ref 66),en P "__doc__" 259 (.none)] 2)::
 (nat_lit 68,{cls:=.type "type", data:=.cls {name:="NoGrammar", bases:=[.ref 31],mro:=[.ref 68,.ref 31,.type "ValueError", .type "Exception", .type "BaseException", .type "object"],ns:=67,qualname:="NoGrammar" },slots:=#[.some (.ref 59),.none,.some (.str "NoGrammar" 246),.some (.str "NoGrammar" 254),.some (.builtin "ValueError.__new__"),.some (.bool Bool.true)]})::
 (nat_lit 79,dO #[en P "__module__" 269 mVB,en P "__firstlineno__" 273 (.int 13 272),en P "__static_attributes__" 274 (.ref 78),en P "__doc__" 275 (.none)] 2)::
 (nat_lit 80,{cls:=.type "type", data:=.cls {name:="NoTree", bases:=[.ref 31],mro:=[.ref 80,.ref 31,.type "ValueError", .type "Exception", .type "BaseException", .type "object"],ns:=79,qualname:="NoTree" },slots:=#[.some (.ref 71),.none,.some (.str "NoTree" 262),.some (.str "NoTree" 270),.some (.builtin "ValueError.__new__"),.some (.bool Bool.true)]})::
 (nat_lit 83,tO #[.int 0 280,.int 1 281])::
 (nat_lit 84,tO #[.int 1 283,.int 1 284])::
 (nat_lit 90,cR "common_divisor" 286 18 2 85 (.ref 87) (.ref 88) (.ref 89) 292 293 )::
 (nat_lit 91,fN "common_divisor" Qf mVE 90)::
 (nat_lit 97,cR "share" 295 24 2 92 (.ref 94) (.ref 95) (.ref 96) 301 302 )::
 (nat_lit 98,fN "share" Zv mVE 97)::
 (nat_lit 104,cR "added" 304 31 2 99 (.ref 101) (.ref 102) (.ref 103) 312 313 )::
 (nat_lit 105,fN "added" Zz mVE 104)::
 (nat_lit 111,cR "lessened" 315 36 2 106 (.ref 108) (.ref 109) (.ref 110) 320 321 )::
 (nat_lit 112,fN "lessened" Jx mVE 111)::
 (nat_lit 118,cR "timed" 323 40 2 113 (.ref 115) (.ref 116) (.ref 117) 330 331 )::
 (nat_lit 119,fN "timed" vN mVE 118)::
 (nat_lit 125,cR "parted" 333 44 2 120 (.ref 122) (.ref 123) (.ref 124) 338 339 )::
 (nat_lit 126,fN "parted" Zf mVE 125)::
 (nat_lit 132,cR "sum_of_products" 341 48 1 127 (.ref 129) (.ref 130) (.ref 131) 351 352 )::
 (nat_lit 133,fN "sum_of_products" qx mVE 132)::
 (nat_lit 139,cR "is_less" 354 58 2 134 (.ref 136) (.ref 137) (.ref 138) 359 360 )::
 (nat_lit 140,fN "is_less" J7 mVE 139)::
 (nat_lit 153,cQ "__init__" "Grammar.__init__" 382 66 3 148 (.ref 150) (.ref 151) (.ref 152) 388 389 )::
 (nat_lit 154,fO "__init__" "Grammar.__init__" qC mVA 153)::
 (nat_lit 160,cQ "start" "Grammar.start" 391 75 1 155 (.ref 157) (.ref 158) (.ref 159) 395 396 )::
 (nat_lit 161,fO "start" "Grammar.start" Qu mVA 160)::
 (nat_lit 167,cQ "rules" "Grammar.rules" 398 78 1 162 (.ref 164) (.ref 165) (.ref 166) 402 403 )::
 (nat_lit 168,fO "rules" "Grammar.rules" Qr mVA 167)::
 (nat_lit 174,cQ "heads" "Grammar.heads" 405 81 1 169 (.ref 171) (.ref 172) (.ref 173) 409 410 )::
 (nat_lit 175,fO "heads" "Grammar.heads" Qt mVA 174)::
 (nat_lit 181,cQ "live" "Grammar.live" 412 84 1 176 (.ref 178) (.ref 179) (.ref 180) 416 417 )::
 (nat_lit 182,fO "live" "Grammar.live" QQ mVA 181)::
 (nat_lit 184,dO #[en P "__module__" 377 mVA,en P "__firstlineno__" 381 (.int 64 380),en P "__init__" 390 (.ref 154),en P "start" 397 (.ref 161),en P "rules" 404 (.ref 168),en P "heads" 411 (.ref 175),en P "live" 418 (.ref 182),en P "__static_attributes__" 423 (.ref 183),en P "__dict__" 425 (.ref 186),en P "__weakref__" 427 (.ref 187),en P "__doc__" 428 (.none)] 4)::
 (nat_lit 185,{cls:=.type "type", data:=.cls {name:="Grammar", bases:=[.type "object"],mro:=[.ref 185,.type "object"],ns:=184,qualname:="Grammar" },slots:=#[.none,.none,.some (.str "Grammar" 370),.some (.str "Grammar" 378),.some (.builtin "object.__new__"),.some (.bool Bool.true)]})::
 (nat_lit 186,{cls:=.type "getset_descriptor", data:=.fields #[.str "__dict__" 424,.ref 185,.builtin "function.__dict__", .builtin "function.__dict__#set"]})::
 (nat_lit 187,{cls:=.type "getset_descriptor", data:=.fields #[.str "__weakref__" 426,.ref 185,.builtin "ExceptionGroup.__weakref__", .none]})::
 (nat_lit 195,cR "check_rules" 431 86 1 190 (.ref 192) (.ref 193) (.ref 194) 437 438 )::
 (nat_lit 196,fN "check_rules" Q6 mVA 195)::
 (nat_lit 202,cR "check_rule" 440 95 1 197 (.ref 199) (.ref 200) (.ref 201) 445 446 )::
 (nat_lit 203,fN "check_rule" jF mVA 202)::
 (nat_lit 209,cR "check_symbol" 448 103 1 204 (.ref 206) (.ref 207) (.ref 208) 452 453 )::
 (nat_lit 210,fN "check_symbol" QT mVA 209)::
 (nat_lit 214,cR "is_symbol" 455 106 1 211 .none .none (.ref 213) 458 459 )::
 (nat_lit 215,fN "is_symbol" jx mVA 214)::
 (nat_lit 221,cR "is_letter" 461 108 1 216 (.ref 218) (.ref 219) (.ref 220) 465 466 )::
 (nat_lit 222,fN "is_letter" j9 mVA 221)::
 (nat_lit 228,cR "check_start" 468 110 2 223 (.ref 225) (.ref 226) (.ref 227) 473 474 )::
 (nat_lit 229,fN "check_start" Q5 mVA 228)::
 (nat_lit 235,cR "check_sums" 476 113 2 230 (.ref 232) (.ref 233) (.ref 234) 484 485 )::
 (nat_lit 236,fN "check_sums" jE mVA 235)::
 (nat_lit 242,cR "heads_of" 487 121 1 237 (.ref 239) (.ref 240) (.ref 241) 493 494 )::
 (nat_lit 243,fN "heads_of" JF mVA 242)::
 (nat_lit 247,cR "live_of" 496 127 2 244 .none .none (.ref 246) 499 500 )::
 (nat_lit 248,fN "live_of" Jy mVA 247)::
 (nat_lit 252,cR "has_live_body" 502 135 4 249 .none .none (.ref 251) 505 506 )::
 (nat_lit 253,fN "has_live_body" qY mVA 252)::
 (nat_lit 257,cR "is_live_body" 508 137 3 254 .none .none (.ref 256) 511 512 )::
 (nat_lit 258,fN "is_live_body" Qi mVA 257)::
 (nat_lit 262,cR "stretches" 516 140 1 259 .none .none (.ref 261) 519 520 )::
 (nat_lit 263,fN "stretches" jq (.str "scoreflow.rows" 514) 262)::
 (nat_lit 267,cR "solved_rows" 524 146 2 264 .none .none (.ref 266) 527 528 )::
 (nat_lit 268,fN "solved_rows" qI mVG 267)::
 (nat_lit 272,cR "without_itself" 530 152 2 269 .none .none (.ref 271) 533 534 )::
 (nat_lit 273,fN "without_itself" qG mVG 272)::
 (nat_lit 277,cR "put_in" 536 159 3 274 .none .none (.ref 276) 539 540 )::
 (nat_lit 278,fN "put_in" zl mVG 277)::
 (nat_lit 284,cR "cleared" 542 164 2 279 (.ref 281) (.ref 282) (.ref 283) 547 548 )::
 (nat_lit 285,fN "cleared" J8 mVG 284)::
 (nat_lit 296,cQ "__init__" "Sums.__init__" 564 169 3 293 .none .none (.ref 295) 567 568 )::
 (nat_lit 297,fO "__init__" "Sums.__init__" qz mVC 296)::
 (nat_lit 303,cQ "within" "Sums.within" 570 182 4 298 (.ref 300) (.ref 301) (.ref 302) 577 578 )::
 (nat_lit 304,fO "within" "Sums.within" Q8 mVC 303)::
 (nat_lit 310,cQ "whole" "Sums.whole" 580 185 1 305 (.ref 307) (.ref 308) (.ref 309) 584 585 )::
 (nat_lit 311,fO "whole" "Sums.whole" jJ mVC 310)::
 (nat_lit 315,cQ "settle" "Sums.settle" 587 188 3 312 .none .none (.ref 314) 590 591 )::
 (nat_lit 316,fO "settle" "Sums.settle" Qz mVC 315)::
 (nat_lit 322,cQ "ends_at" "Sums.ends_at" 593 195 3 317 (.ref 319) (.ref 320) (.ref 321) 602 603 )::
 (nat_lit 323,fO "ends_at" "Sums.ends_at" QM mVC 322)::
 (nat_lit 329,cQ "worth" "Sums.worth" 605 203 4 324 (.ref 326) (.ref 327) (.ref 328) 612 613 )::
 (nat_lit 330,fO "worth" "Sums.worth" jD mVC 329)::
 (nat_lit 336,cQ "worth_of_body" "Sums.worth_of_body" 615 208 4 331 (.ref 333) (.ref 334) (.ref 335) 622 623 )::
 (nat_lit 337,fO "worth_of_body" "Sums.worth_of_body" qo mVC 336)::
 (nat_lit 343,cQ "sum_of_partings" "Sums.sum_of_partings" 625 215 4 338 (.ref 340) (.ref 341) (.ref 342) 635 636 )::
 (nat_lit 344,fO "sum_of_partings" "Sums.sum_of_partings" Ji mVC 343)::
 (nat_lit 346,dO #[en P "__module__" 559 mVC,en P "__firstlineno__" 563 (.int 167 562),en P "__init__" 569 (.ref 297),en P "within" 579 (.ref 304),en P "whole" 586 (.ref 311),en P "settle" 592 (.ref 316),en P "ends_at" 604 (.ref 323),en P "worth" 614 (.ref 330),en P "worth_of_body" 624 (.ref 337),en P "sum_of_partings" 637 (.ref 344),en P "__static_attributes__" 645 (.ref 345),en P "__dict__" 647 (.ref 348),en P "__weakref__" 649 (.ref 349),en P "__doc__" 650 (.none)] 4)::
 (nat_lit 347,{cls:=.type "type", data:=.cls {name:="Sums", bases:=[.type "object"],mro:=[.ref 347,.type "object"],ns:=346,qualname:="Sums" },slots:=#[.none,.none,.some (.str "Sums" 552),.some (.str "Sums" 560),.some (.builtin "object.__new__"),.some (.bool Bool.true)]})::
 (nat_lit 348,{cls:=.type "getset_descriptor", data:=.fields #[.str "__dict__" 646,.ref 347,.builtin "function.__dict__", .builtin "function.__dict__#set"]})::
 (nat_lit 349,{cls:=.type "getset_descriptor", data:=.fields #[.str "__weakref__" 648,.ref 347,.builtin "ExceptionGroup.__weakref__", .none]})::
 (nat_lit 355,cR "live_rules" 653 222 1 352 .none .none (.ref 354) 656 657 )::
 (nat_lit 356,fN "live_rules" jM mVC 355)::
 (nat_lit 362,cR "is_step" 659 226 2 357 (.ref 359) (.ref 360) (.ref 361) 664 665 )::
 (nat_lit 363,fN "is_step" Zn mVC 362)::
 (nat_lit 367,cR "chains_of" 667 228 2 364 .none .none (.ref 366) 670 671 )::
 (nat_lit 368,fN "chains_of" js mVC 367)::
 (nat_lit 381,cQ "__init__" "Parts.__init__" 687 244 3 376 (.ref 378) (.ref 379) (.ref 380) 696 697 )::
 (nat_lit 382,fO "__init__" "Parts.__init__" QN mVD 381)::
 (nat_lit 388,cQ "beyond" "Parts.beyond" 699 260 4 383 (.ref 385) (.ref 386) (.ref 387) 706 707 )::
 (nat_lit 389,fO "beyond" "Parts.beyond" jt mVD 388)::
 (nat_lit 395,cQ "part" "Parts.part" 709 263 4 390 (.ref 392) (.ref 393) (.ref 394) 716 717 )::
 (nat_lit 396,fO "part" "Parts.part" Wd mVD 395)::
 (nat_lit 400,cQ "uses" "Parts.uses" 719 266 2 397 .none .none (.ref 399) 722 723 )::
 (nat_lit 401,fO "uses" "Parts.uses" jH mVD 400)::
 (nat_lit 407,cQ "hand" "Parts.hand" 725 272 5 402 (.ref 404) (.ref 405) (.ref 406) 733 734 )::
 (nat_lit 408,fO "hand" "Parts.hand" Jj mVD 407)::
 (nat_lit 412,cQ "hand_to_heads" "Parts.hand_to_heads" 736 276 3 409 .none .none (.ref 411) 739 740 )::
 (nat_lit 413,fO "hand_to_heads" "Parts.hand_to_heads" Y9 mVD 412)::
 (nat_lit 419,cQ "hand_to_bodies" "Parts.hand_to_bodies" 742 285 3 414 (.ref 416) (.ref 417) (.ref 418) 749 750 )::
 (nat_lit 420,fO "hand_to_bodies" "Parts.hand_to_bodies" qu mVD 419)::
 (nat_lit 424,cQ "hand_within_bodies" "Parts.hand_within_bodies" 752 289 3 421 .none .none (.ref 423) 755 756 )::
 (nat_lit 425,fO "hand_within_bodies" "Parts.hand_within_bodies" Yv mVD 424)::
 (nat_lit 427,dO #[en P "__module__" 682 mVD,en P "__firstlineno__" 686 (.int 242 685),en P "__init__" 698 (.ref 382),en P "beyond" 708 (.ref 389),en P "part" 718 (.ref 396),en P "uses" 724 (.ref 401),en P "hand" 735 (.ref 408),en P "hand_to_heads" 741 (.ref 413),en P "hand_to_bodies" 751 (.ref 420),en P "hand_within_bodies" 757 (.ref 425),en P "__static_attributes__" 763 (.ref 426),en P "__dict__" 765 (.ref 429),en P "__weakref__" 767 (.ref 430),en P "__doc__" 768 (.none)] 4)::
 (nat_lit 428,{cls:=.type "type", data:=.cls {name:="Parts", bases:=[.type "object"],mro:=[.ref 428,.type "object"],ns:=427,qualname:="Parts" },slots:=#[.none,.none,.some (.str "Parts" 675),.some (.str "Parts" 683),.some (.builtin "object.__new__"),.some (.bool Bool.true)]})::
 (nat_lit 429,{cls:=.type "getset_descriptor", data:=.fields #[.str "__dict__" 764,.ref 428,.builtin "function.__dict__", .builtin "function.__dict__#set"]})::
 (nat_lit 430,{cls:=.type "getset_descriptor", data:=.fields #[.str "__weakref__" 766,.ref 428,.builtin "ExceptionGroup.__weakref__", .none]})::
 (nat_lit 438,cR "likely" 773 297 2 433 (.ref 435) (.ref 436) (.ref 437) 783 784 )::
 (nat_lit 439,fN "likely" vt mVH 438)::
 (nat_lit 445,cR "learnt" 786 304 2 440 (.ref 442) (.ref 443) (.ref 444) 797 798 )::
 (nat_lit 446,fN "learnt" vp mVH 445)::
 (nat_lit 450,cR "counts_of" 800 315 2 447 .none .none (.ref 449) 803 804 )::
 (nat_lit 451,fN "counts_of" jv mVH 450)::
 (nat_lit 457,cR "sums_by_head" 806 321 2 452 (.ref 454) (.ref 455) (.ref 456) 814 815 )::
 (nat_lit 458,fN "sums_by_head" jp mVH 457)::
 (nat_lit 464,cR "_law_cell_at" 819 327 2 459 (.ref 461) (.ref 462) (.ref 463) 824 825 )::
 (nat_lit 465,fN "_law_cell_at" jT mVF 464)::
 (nat_lit 471,cR "_law_symbols" 827 331 2 466 (.ref 468) (.ref 469) (.ref 470) 840 841 )::
 (nat_lit 472,fN "_law_symbols" Q7 mVF 471)::
 (nat_lit 478,cR "_law_share" 843 345 2 473 (.ref 475) (.ref 476) (.ref 477) 851 852 )::
 (nat_lit 479,fN "_law_share" Jb mVF 478)::
 (nat_lit 497,cR "_law_shared" 870 357 1 494 .none .none (.ref 496) 873 874 )::
 (nat_lit 498,fN "_law_shared" jN mVF 497)::
 (nat_lit 502,cR "law" 876 359 1 499 .none .none (.ref 501) 879 880 )::
 (nat_lit 503,fN "law" Z6 mVF 502)::[]
noncomputable def KA:List Addr:=nat_lit 2::nat_lit 3::nat_lit 20::nat_lit 21::nat_lit 30::nat_lit 31::nat_lit 32::nat_lit 43::nat_lit 44::nat_lit 55::nat_lit 56::nat_lit 67::nat_lit 68::nat_lit 79::nat_lit 80::nat_lit 83::nat_lit 84::nat_lit 90::nat_lit 91::nat_lit 97::nat_lit 98::nat_lit 104::nat_lit 105::nat_lit 111::nat_lit 112::nat_lit 118::nat_lit 119::nat_lit 125::nat_lit 126::nat_lit 132::nat_lit 133::nat_lit 139::nat_lit 140::nat_lit 153::nat_lit 154::nat_lit 160::nat_lit 161::nat_lit 167::nat_lit 168::nat_lit 174::nat_lit 175::nat_lit 181::nat_lit 182::nat_lit 184::nat_lit 185::nat_lit 186::nat_lit 187::nat_lit 195::nat_lit 196::nat_lit 202::nat_lit 203::nat_lit 209::nat_lit 210::nat_lit 214::nat_lit 215::nat_lit 221::nat_lit 222::nat_lit 228::nat_lit 229::nat_lit 235::nat_lit 236::nat_lit 242::nat_lit 243::nat_lit 247::nat_lit 248::nat_lit 252::nat_lit 253::nat_lit 257::nat_lit 258::nat_lit 262::nat_lit 263::nat_lit 267::nat_lit 268::nat_lit 272::nat_lit 273::nat_lit 277::nat_lit 278::nat_lit 284::nat_lit 285::nat_lit 296::nat_lit 297::nat_lit 303::nat_lit 304::nat_lit 310::nat_lit 311::nat_lit 315::nat_lit 316::nat_lit 322::nat_lit 323::nat_lit 329::nat_lit 330::nat_lit 336::nat_lit 337::nat_lit 343::nat_lit 344::nat_lit 346::nat_lit 347::nat_lit 348::nat_lit 349::nat_lit 355::nat_lit 356::nat_lit 362::nat_lit 363::nat_lit 367::nat_lit 368::nat_lit 381::nat_lit 382::nat_lit 388::nat_lit 389::nat_lit 395::nat_lit 396::nat_lit 400::nat_lit 401::nat_lit 407::nat_lit 408::nat_lit 412::nat_lit 413::nat_lit 419::nat_lit 420::nat_lit 424::nat_lit 425::nat_lit 427::nat_lit 428::nat_lit 429::nat_lit 430::nat_lit 438::nat_lit 439::nat_lit 445::nat_lit 446::nat_lit 450::nat_lit 451::nat_lit 457::nat_lit 458::nat_lit 464::nat_lit 465::nat_lit 471::nat_lit 472::nat_lit 478::nat_lit 479::nat_lit 497::nat_lit 498::nat_lit 502::nat_lit 503::[]
theorem KE:∀ P,KA=(KP P).map (·.1):=fun _=>by kernel_rfl
set_option maxHeartbeats 0 in
theorem sY:PySem.Challenge.rw_scoreflow_k20_whole_counted_apart.wellSaid=true:=by kernel_rfl
noncomputable def ax:Program:={PySem.Challenge.pw_scoreflow_k20_whole_counted_apart with main:={PySem.Challenge.pw_scoreflow_k20_whole_counted_apart.main with body:=[top 0,top 2,top 3,top 4,top 5,top 6,top 8,top 9,top 10,top 11,top 12,top 13,top 14,top 15,top 16,top 17,top 19,top 20,top 21,top 22,top 23,top 24,top 25,top 26,top 27,top 28,top 29,top 30,top 31,top 32,top 33,top 35,top 37,top 38,top 39,top 40,top 42,top 43,top 44,top 45,top 47,top 49,top 50,top 51,top 52,top 54,top 55,top 56,top 57,top 58,top 59,top 60]}}
noncomputable abbrev pr:Program:=PySem.Challenge.pw_scoreflow_k20_whole_counted_apart
noncomputable def tp:List Stmt:=W.behindTheImports pr
noncomputable def ev:Env:={scope:=pr.main.scope,locals:=mainNs,globals:=mainNs,cells:=[],code:=.ref 13,frame:=some 14}
noncomputable def fr0 (n q:Str)(s:Stmt):Obj:={cls:=.none,data:=.func {name:=n,qualname:=q,params:=L2.jg s,body:=.stmts (L2.YT s),scope:=L2.yi s,globals:=0,closure:=[],defaults:=.none,kwdefaults:=.none}}
noncomputable def hA (P:Params):Heap:={objs:=⟨W.boot_o_0 P::
 W.boot_o_1 P::
 W.boot_o_2 P::
 W.boot_o_3 P::
 W.boot_o_4 P::
 W.boot_o_5 P::
 W.boot_o_6 P::
 W.boot_o_7 P::
 W.boot_o_8 P::
 W.boot_o_9 P::
 W.boot_o_10 P::
 {cls:=.type "tuple", data:=.seq #[]}::
 {cls:=.none,data:=.fields #[]}::
 cO "<module>" "<module>" 182 183 184 1 0 0 0 0 11 false 181 12 .none .none .none .none 185 186  ::
 {cls:=.type "frame", slots:=#[.some (.ref 13),.some (.ref 3),.some (.ref 3),.none,.some (.str "__main__" 164),.none,.some (.ref 0)]}::[]⟩}
noncomputable def kq (P:Params)(a:Addr):Obj:=((KP P).lookup a).getD {cls:=.none}
noncomputable def eL (P:Params):List Obj:=W.boot_o_0 P::
 W.boot_o_1 P::
 W.boot_o_2 P::
 dO #[en P "__name__" 165 mVC,en P "__doc__" 166 (.none),en P "__package__" 167 (.none),en P "__loader__" 168 (.builtin "__main__.__loader__#opaque"),en P "__spec__" 169 (.none),en P "__annotations__" 170 (.ref 6),en P "__builtins__" 171 (.ref 4),en P "__file__" 173 (.str "/claim/cut.py" 172),en P "__cached__" 174 (.none),en P "_wall" 193 (.ref 21),en P "ScoreError" 213 (.ref 31),en P "NoShare" 229 (.ref 44),en P "NoEnd" 245 (.ref 56),en P "NoGrammar" 261 (.ref 68),en P "NoTree" 277 (.ref 80),en P "NOUGHT" 282 (.ref 83),en P "ONE" 285 (.ref 84),en P "common_divisor" 294 (.ref 91),en P "share" 303 (.ref 98),en P "added" 314 (.ref 105),en P "lessened" 322 (.ref 112),en P "timed" 332 (.ref 119),en P "parted" 340 (.ref 126),en P "sum_of_products" 353 (.ref 133),en P "is_less" 361 (.ref 140),en P "MOST_RULES" 365 (.int 30 364),en P "MOST_SYMBOLS" 367 (.int 4 366),en P "MOST_LETTERS" 369 (.int 8 368),en P "Grammar" 430 (.ref 185),en P "check_rules" 439 (.ref 196),en P "check_rule" 447 (.ref 203),en P "check_symbol" 454 (.ref 210),en P "is_symbol" 460 (.ref 215),en P "is_letter" 467 (.ref 222),en P "check_start" 475 (.ref 229),en P "check_sums" 486 (.ref 236),en P "heads_of" 495 (.ref 243),en P "live_of" 501 (.ref 248),en P "has_live_body" 507 (.ref 253),en P "is_live_body" 513 (.ref 258),en P "stretches" 521 (.ref 263),en P "solved_rows" 529 (.ref 268),en P "without_itself" 535 (.ref 273),en P "put_in" 541 (.ref 278),en P "cleared" 549 (.ref 285),en P "Sums" 652 (.ref 347)] 46::
 W.boot_o_4 P::
 W.boot_o_5 P::
 W.boot_o_6 P::
 W.boot_o_7 P::
 W.boot_o_8 P::
 W.boot_o_9 P::
 W.boot_o_10 P::
 tO #[]::
 {cls:=.none,data:=.fields #[.int 1 0,.int 0 0,.ref 20,.int 5 0,.int 0 0,.ref 27,.int 7 0,.int 0 0,.ref 40,.int 9 0,.int 0 0,.ref 52,.int 11 0,.int 0 0,.ref 64,.int 13 0,.int 0 0,.ref 76,.int 18 0,.int 0 0,.ref 90,.int 24 0,.int 0 0,.ref 97,.int 31 0,.int 0 0,.ref 104,.int 36 0,.int 0 0,.ref 111,.int 40 0,.int 0 0,.ref 118,.int 44 0,.int 0 0,.ref 125,.int 48 0,.int 0 0,.ref 132,.int 58 0,.int 0 0,.ref 139,.int 64 0,.int 0 0,.ref 146,.int 86 0,.int 0 0,.ref 195,.int 95 0,.int 0 0,.ref 202,.int 103 0,.int 0 0,.ref 209,.int 106 0,.int 0 0,.ref 214,.int 108 0,.int 0 0,.ref 221,.int 110 0,.int 0 0,.ref 228,.int 113 0,.int 0 0,.ref 235,.int 121 0,.int 0 0,.ref 242,.int 127 0,.int 0 0,.ref 247,.int 135 0,.int 0 0,.ref 252,.int 137 0,.int 0 0,.ref 257,.int 140 0,.int 0 0,.ref 262,.int 146 0,.int 0 0,.ref 267,.int 152 0,.int 0 0,.ref 272,.int 159 0,.int 0 0,.ref 277,.int 164 0,.int 0 0,.ref 284,.int 167 0,.int 0 0,.ref 291]}::
 cO "<module>" "<module>" 182 183 184 1 0 0 0 0 11 false 181 12 .none .none .none .none 185 186::
 mO 13 3 3 (.str "__main__" 164)::
 tO #[]::
 nO::
 tO #[.str "k" 190]::
 tO #[]::
 fr0 ("_wall") ("_wall") e7::
 kq P 20::
 kq P 21::
 tO #[.type "ValueError"]::
 zJ "type.__prepare__" (.type "type")::
 dO #[en P "__module__" 203 mVB,en P "__qualname__" 205 (.str "ScoreError" 204),en P "__firstlineno__" 207 (.int 5 206),en P "__static_attributes__" 208 (.ref 29)] 4::
 tO #[]::
 nO::
 cO "ScoreError" "ScoreError" 198 199 200 5 0 0 0 0 25 false 181 26 .none .none .none .none 201 202::
 mO 27 3 24 mVB::
 tO #[]::
 kq P 30::
 kq P 31::
 kq P 32::
 uO 31::
 zJ "object.__init_subclass__" (.ref 31)::
 tO #[.ref 31]::
 zJ "type.__prepare__" (.type "type")::
 dO #[en P "__module__" 221 mVB,en P "__qualname__" 223 (.str "NoShare" 222),en P "__firstlineno__" 225 (.int 7 224),en P "__static_attributes__" 226 (.ref 42)] 4::
 tO #[]::
 nO::
 cO "NoShare" "NoShare" 216 217 218 7 0 0 0 0 38 false 181 39 .none .none .none .none 219 220::
 mO 40 3 37 mVB::
 tO #[]::
 kq P 43::
 kq P 44::
 uO 44::
 zJ "object.__init_subclass__" (.ref 44)::
 tO #[.ref 31]::
 zJ "type.__prepare__" (.type "type")::
 dO #[en P "__module__" 237 mVB,en P "__qualname__" 239 (.str "NoEnd" 238),en P "__firstlineno__" 241 (.int 9 240),en P "__static_attributes__" 242 (.ref 54)] 4::
 tO #[]::
 nO::
 cO "NoEnd" "NoEnd" 232 233 234 9 0 0 0 0 50 false 181 51 .none .none .none .none 235 236::
 mO 52 3 49 mVB::
 tO #[]::
 kq P 55::
 kq P 56::
 uO 56::
 zJ "object.__init_subclass__" (.ref 56)::
 tO #[.ref 31]::
 zJ "type.__prepare__" (.type "type")::
 dO #[en P "__module__" 253 mVB,en P "__qualname__" 255 (.str "NoGrammar" 254),en P "__firstlineno__" 257 (.int 11 256),en P "__static_attributes__" 258 (.ref 66)] 4::
 tO #[]::
 nO::
 cO "NoGrammar" "NoGrammar" 248 249 250 11 0 0 0 0 62 false 181 63 .none .none .none .none 251 252::
 mO 64 3 61 mVB::
 tO #[]::
 kq P 67::
 kq P 68::
 uO 68::
 zJ "object.__init_subclass__" (.ref 68)::
 tO #[.ref 31]::
 zJ "type.__prepare__" (.type "type")::
 dO #[en P "__module__" 269 mVB,en P "__qualname__" 271 (.str "NoTree" 270),en P "__firstlineno__" 273 (.int 13 272),en P "__static_attributes__" 274 (.ref 78)] 4::
 tO #[]::
 nO::
 cO "NoTree" "NoTree" 264 265 266 13 0 0 0 0 74 false 181 75 .none .none .none .none 267 268::
 mO 76 3 73 mVB::
 tO #[]::
 kq P 79::
 kq P 80::
 uO 80::
 zJ "object.__init_subclass__" (.ref 80)::
 kq P 83::
 kq P 84::
 tO #[]::
 nO::
 tO #[.str "one" 289,.str "other" 290,.str "rest" 291]::
 tO #[]::
 fr0 ("common_divisor") ("common_divisor") Qf::
 kq P 90::
 kq P 91::
 tO #[]::
 nO::
 tO #[.str "top" 298,.str "bottom" 299,.str "divisor" 300]::
 tO #[]::
 fr0 ("share") ("share") Zv::
 kq P 97::
 kq P 98::
 tO #[]::
 nO::
 tO #[.str "one" 307,.str "other" 308,.str "divisor" 309,.str "top" 310,.str "left" 311]::
 tO #[]::
 fr0 ("added") ("added") Zz::
 kq P 104::
 kq P 105::
 tO #[]::
 nO::
 tO #[.str "one" 318,.str "other" 319]::
 tO #[]::
 fr0 ("lessened") ("lessened") Jx::
 kq P 111::
 kq P 112::
 tO #[]::
 nO::
 tO #[.str "one" 326,.str "other" 327,.str "first" 328,.str "second" 329]::
 tO #[]::
 fr0 ("timed") ("timed") vN::
 kq P 118::
 kq P 119::
 tO #[]::
 nO::
 tO #[.str "one" 336,.str "other" 337]::
 tO #[]::
 fr0 ("parted") ("parted") Zf::
 kq P 125::
 kq P 126::
 tO #[]::
 nO::
 tO #[.str "pairs" 344,.str "top" 345,.str "bottom" 346,.str "one" 347,.str "other" 348,.str "below" 349,.str "divisor" 350]::
 tO #[]::
 fr0 ("sum_of_products") ("sum_of_products") qx::
 kq P 132::
 kq P 133::
 tO #[]::
 nO::
 tO #[.str "one" 357,.str "other" 358]::
 tO #[]::
 fr0 ("is_less") ("is_less") J7::
 kq P 139::
 kq P 140::
 tO #[]::
 zJ "type.__prepare__" (.type "type")::
 dO #[en P "__module__" 377 mVA,en P "__qualname__" 379 (.str "Grammar" 378),en P "__firstlineno__" 381 (.int 64 380),en P "__init__" 390 (.ref 154),en P "start" 397 (.ref 161),en P "rules" 404 (.ref 168),en P "heads" 411 (.ref 175),en P "live" 418 (.ref 182),en P "__static_attributes__" 423 (.ref 183)] 9::
 tO #[]::
 {cls:=.none,data:=.fields #[.int 66 0,.int 4 0,.ref 153,.int 75 0,.int 4 0,.ref 160,.int 78 0,.int 4 0,.ref 167,.int 81 0,.int 4 0,.ref 174,.int 84 0,.int 4 0,.ref 181]}::
 cO "Grammar" "Grammar" 372 373 374 64 0 0 0 0 144 false 181 145 .none .none .none .none 375 376::
 mO 146 3 143 mVA::
 tO #[]::
 nO::
 tO #[.str "self" 385,.str "start" 386,.str "rules" 387]::
 tO #[]::
 fr0 ("__init__") ("Grammar.__init__") qC::
 kq P 153::
 kq P 154::
 tO #[]::
 nO::
 tO #[.str "self" 394]::
 tO #[]::
 fr0 ("start") ("Grammar.start") Qu::
 kq P 160::
 kq P 161::
 tO #[]::
 nO::
 tO #[.str "self" 401]::
 tO #[]::
 fr0 ("rules") ("Grammar.rules") Qr::
 kq P 167::
 kq P 168::
 tO #[]::
 nO::
 tO #[.str "self" 408]::
 tO #[]::
 fr0 ("heads") ("Grammar.heads") Qt::
 kq P 174::
 kq P 175::
 tO #[]::
 nO::
 tO #[.str "self" 415]::
 tO #[]::
 fr0 ("live") ("Grammar.live") QQ::
 kq P 181::
 kq P 182::
 tO #[.str "first" 419,.str "kept_heads" 420,.str "kept_live" 421,.str "kept_rules" 422]::
 kq P 184::
 kq P 185::
 kq P 186::
 kq P 187::
 uO 185::
 zJ "object.__init_subclass__" (.ref 185)::
 tO #[]::
 nO::
 tO #[.str "rules" 434,.str "seen" 435,.str "rule" 436]::
 tO #[]::
 fr0 ("check_rules") ("check_rules") Q6::
 kq P 195::
 kq P 196::
 tO #[]::
 nO::
 tO #[.str "rule" 443,.str "symbol" 444]::
 tO #[]::
 fr0 ("check_rule") ("check_rule") jF::
 kq P 202::
 kq P 203::
 tO #[]::
 nO::
 tO #[.str "text" 451]::
 tO #[]::
 fr0 ("check_symbol") ("check_symbol") QT::
 kq P 209::
 kq P 210::
 tO #[]::
 nO::
 fr0 ("is_symbol") ("is_symbol") jx::
 kq P 214::
 kq P 215::
 tO #[]::
 nO::
 tO #[.str "sign" 464]::
 tO #[]::
 fr0 ("is_letter") ("is_letter") j9::
 kq P 221::
 kq P 222::
 tO #[]::
 nO::
 tO #[.str "start" 471,.str "heads" 472]::
 tO #[]::
 fr0 ("check_start") ("check_start") Q5::
 kq P 228::
 kq P 229::
 tO #[]::
 nO::
 tO #[.str "heads" 479,.str "rules" 480,.str "head" 481,.str "total" 482,.str "rule" 483]::
 tO #[]::
 fr0 ("check_sums") ("check_sums") jE::
 kq P 235::
 kq P 236::
 tO #[]::
 nO::
 tO #[.str "rules" 490,.str "heads" 491,.str "rule" 492]::
 tO #[]::
 fr0 ("heads_of") ("heads_of") JF::
 kq P 242::
 kq P 243::
 tO #[]::
 nO::
 fr0 ("live_of") ("live_of") Jy::
 kq P 247::
 kq P 248::
 tO #[]::
 nO::
 fr0 ("has_live_body") ("has_live_body") qY::
 kq P 252::
 kq P 253::
 tO #[]::
 nO::
 fr0 ("is_live_body") ("is_live_body") Qi::
 kq P 257::
 kq P 258::
 tO #[]::
 nO::
 fr0 ("stretches") ("stretches") jq::
 kq P 262::
 kq P 263::
 tO #[]::
 nO::
 fr0 ("solved_rows") ("solved_rows") qI::
 kq P 267::
 kq P 268::
 tO #[]::
 nO::
 fr0 ("without_itself") ("without_itself") qG::
 kq P 272::
 kq P 273::
 tO #[]::
 nO::
 fr0 ("put_in") ("put_in") zl::
 kq P 277::
 kq P 278::
 tO #[]::
 nO::
 tO #[.str "row" 545,.str "k" 546]::
 tO #[]::
 fr0 ("cleared") ("cleared") J8::
 kq P 284::
 kq P 285::
 tO #[]::
 zJ "type.__prepare__" (.type "type")::
 dO #[en P "__module__" 559 mVC,en P "__qualname__" 561 (.str "Sums" 560),en P "__firstlineno__" 563 (.int 167 562),en P "__init__" 569 (.ref 297),en P "within" 579 (.ref 304),en P "whole" 586 (.ref 311),en P "settle" 592 (.ref 316),en P "ends_at" 604 (.ref 323),en P "worth" 614 (.ref 330),en P "worth_of_body" 624 (.ref 337),en P "sum_of_partings" 637 (.ref 344),en P "__static_attributes__" 645 (.ref 345)] 12::
 tO #[]::
 {cls:=.none,data:=.fields #[.int 169 0,.int 4 0,.ref 296,.int 182 0,.int 4 0,.ref 303,.int 185 0,.int 4 0,.ref 310,.int 188 0,.int 4 0,.ref 315,.int 195 0,.int 4 0,.ref 322,.int 203 0,.int 4 0,.ref 329,.int 208 0,.int 4 0,.ref 336,.int 215 0,.int 4 0,.ref 343]}::
 cO "Sums" "Sums" 554 555 556 167 0 0 0 0 289 false 181 290 .none .none .none .none 557 558::
 mO 291 3 288 mVC::
 tO #[]::
 nO::
 fr0 ("__init__") ("Sums.__init__") qz::
 kq P 296::
 kq P 297::
 tO #[]::
 nO::
 tO #[.str "self" 573,.str "head" 574,.str "i" 575,.str "j" 576]::
 tO #[]::
 fr0 ("within") ("Sums.within") Q8::
 kq P 303::
 kq P 304::
 tO #[]::
 nO::
 tO #[.str "self" 583]::
 tO #[]::
 fr0 ("whole") ("Sums.whole") jJ::
 kq P 310::
 kq P 311::
 tO #[]::
 nO::
 fr0 ("settle") ("Sums.settle") Qz::
 kq P 315::
 kq P 316::
 tO #[]::
 nO::
 tO #[.str "self" 596,.str "i" 597,.str "j" 598,.str "ends" 599,.str "rule" 600,.str "worth" 601]::
 tO #[]::
 fr0 ("ends_at") ("Sums.ends_at") QM::
 kq P 322::
 kq P 323::
 tO #[]::
 nO::
 tO #[.str "self" 608,.str "symbol" 609,.str "i" 610,.str "j" 611]::
 tO #[]::
 fr0 ("worth") ("Sums.worth") jD::
 kq P 329::
 kq P 330::
 tO #[]::
 nO::
 tO #[.str "self" 618,.str "body" 619,.str "i" 620,.str "j" 621]::
 tO #[]::
 fr0 ("worth_of_body") ("Sums.worth_of_body") qo::
 kq P 336::
 kq P 337::
 tO #[]::
 nO::
 tO #[.str "self" 628,.str "body" 629,.str "i" 630,.str "j" 631,.str "pairs" 632,.str "middle" 633,.str "worth" 634]::
 tO #[]::
 fr0 ("sum_of_partings") ("Sums.sum_of_partings") Ji::
 kq P 343::
 kq P 344::
 tO #[.str "branches" 638,.str "chains" 639,.str "grammar" 640,.str "known_heads" 641,.str "known_sums" 642,.str "known_worths" 643,.str "row" 644]::
 kq P 346::
 kq P 347::
 kq P 348::
 kq P 349::
 uO 347::
 zJ "object.__init_subclass__" (.ref 347)::[]
noncomputable def mq (P:Params)(i n:Nat):List Obj:=((eL P).drop i).take n
noncomputable def lY (P:Params):Heap:={objs:=⟨mq P 0 3++([dO #[en P "__name__" 165 mVA,en P "__doc__" 166 (.none),en P "__package__" 167 (.none),en P "__loader__" 168 (.builtin "__main__.__loader__#opaque"),en P "__spec__" 169 (.none),en P "__annotations__" 170 (.ref 6),en P "__builtins__" 171 (.ref 4),en P "__file__" 173 (.str "/claim/cut.py" 172),en P "__cached__" 174 (.none),en P "_wall" 193 (.ref 21),en P "ScoreError" 213 (.ref 31),en P "NoShare" 229 (.ref 44),en P "NoEnd" 245 (.ref 56),en P "NoGrammar" 261 (.ref 68),en P "NoTree" 277 (.ref 80),en P "NOUGHT" 282 (.ref 83),en P "ONE" 285 (.ref 84),en P "common_divisor" 294 (.ref 91),en P "share" 303 (.ref 98),en P "added" 314 (.ref 105),en P "lessened" 322 (.ref 112),en P "timed" 332 (.ref 119),en P "parted" 340 (.ref 126),en P "sum_of_products" 353 (.ref 133),en P "is_less" 361 (.ref 140),en P "MOST_RULES" 365 (.int 30 364),en P "MOST_SYMBOLS" 367 (.int 4 366),en P "MOST_LETTERS" 369 (.int 8 368)] 28]++(mq P 4 8++([{cls:=.none,data:=.fields #[.int 1 0,.int 0 0,.ref 20,.int 5 0,.int 0 0,.ref 27,.int 7 0,.int 0 0,.ref 40,.int 9 0,.int 0 0,.ref 52,.int 11 0,.int 0 0,.ref 64,.int 13 0,.int 0 0,.ref 76,.int 18 0,.int 0 0,.ref 90,.int 24 0,.int 0 0,.ref 97,.int 31 0,.int 0 0,.ref 104,.int 36 0,.int 0 0,.ref 111,.int 40 0,.int 0 0,.ref 118,.int 44 0,.int 0 0,.ref 125,.int 48 0,.int 0 0,.ref 132,.int 58 0,.int 0 0,.ref 139]}]++(mq P 13 128))))⟩}
noncomputable def mT (P:Params):Heap:={objs:=⟨eL P⟩}
noncomputable def sA (w:World)(os:OsState):Shared:={heap:=hA w.params,toks:=187,os:=os}
noncomputable def nE (w:World)(os:OsState):Shared:={heap:=lY w.params,toks:=370,os:=os}
noncomputable def iE (w:World)(os:OsState):Shared:={heap:=mT w.params,toks:=653,os:=os}
noncomputable def s0 (w:World)(os:OsState):Shared:={heap:=W.boot_heap w.params,gens:=#[],drawn:=W.boot_drawn,toks:=W.boot_toks,os:=os}
noncomputable def chk (w:World)(s:Shared):Option Shared:=match W.staticsOk (importedModules pr.main.body) (W.boot_heap w.params) s.heap&&W.namesBound pr s.heap&&W.gensDone s&&W.laidKept (W.boot_heap w.params) s.heap with
 |true=>some s
 |false=>none
noncomputable abbrev xt (s:Shared):Bool:=W.xlAt ax [] s&&W.recOk [] s
theorem g1 (w:World)(os:OsState):W.topGo treeTable pr w 11 (some (.ref 6)) 12 (s0 w os) (W.topStub pr)=some (sA w os,{cur:=denote treeTable (.body tp ev),code:=.body tp ev,pos:=⟨0,0,0,0⟩,stack:=[W.topFrame ⟨0,0,0,0⟩]}):=by kernel_rfl
theorem g2 (w:World)(os:OsState):W.segRun treeTable pr w 11 (some (.ref 6)) 1 1 (sA w os) (W.blockOf tp ev (.body tp ev) ⟨0,0,0,0⟩ [W.topFrame ⟨0,0,0,0⟩])=some (.next,sA w os,.body tp ev,⟨0,0,0,0⟩):=by kernel_rfl
set_option maxHeartbeats 0 in
theorem g3 (w:World)(os:OsState):W.segRun treeTable pr w 11 (some (.ref 6)) 1 1600 (sA w os) (W.piecesOf (tp.take 22) ev (.body tp ev) ⟨0,0,0,0⟩ [W.topFrame ⟨0,0,0,0⟩])=some (.next,nE w os,.body tp ev,⟨63,0,63,12⟩):=by kernel_rfl
set_option maxHeartbeats 0 in
theorem g9 (w:World)(os:OsState):W.segRun treeTable pr w 11 (some (.ref 6)) 1 1500 (nE w os) (W.piecesOf ((tp.drop 22).take 21) ev (.body tp ev) ⟨63,0,63,12⟩ [W.topFrame ⟨0,0,0,0⟩])=some (.next,iE w os,.body tp ev,⟨167,0,221,37⟩):=by kernel_rfl
noncomputable def mid (w:World)(os:OsState):Option Shared:=(W.topRun treeTable pr w 11 (some (.ref 6)) 1000 (iE w os) (W.restOf ((tp.drop 22).drop 21) ev (.body tp ev) ⟨167,0,221,37⟩ [W.topFrame ⟨0,0,0,0⟩])).bind (chk w)
noncomputable abbrev see (s:Shared):=W.openSeen ax [] (importedModules pr.main.body) xt true s
noncomputable abbrev goo:=W.openGood ax []
set_option maxHeartbeats 0 in
theorem g4 (w:World)(os:OsState):(mid w os).map (fun s=>(W.kHook KP KA KE).obs s)=some ((W.kHook KP KA KE).val w):=by kernel_rfl
set_option maxHeartbeats 0 in
theorem g5 (w:World)(os:OsState):(mid w os).map (fun s=>(see s).1)=some goo.1:=by kernel_rfl
set_option maxHeartbeats 0 in
theorem g8 (w:World)(os:OsState):(mid w os).map (fun s=>(see s).2.1)=some goo.2.1:=by kernel_rfl
set_option maxHeartbeats 0 in
theorem g7 (w:World)(os:OsState):(mid w os).map (fun s=>((see s).2.2.1,(see s).2.2.2.1))=some (goo.2.2.1,goo.2.2.2.1):=by kernel_rfl
set_option maxHeartbeats 0 in
theorem g6 (w:World)(os:OsState):(mid w os).map (fun s=>(see s).2.2.2.2)=some goo.2.2.2.2:=by kernel_rfl
theorem mi (w:World)(os:OsState):W.topFrom treeTable pr w (12+(1+(1600+(1500+1000)))) (s0 w os)=(W.topRun treeTable pr w 11 (some (.ref 6)) (12+(1+(1600+(1500+1000)))) (s0 w os) (W.topStub pr)).bind (chk w):=by kernel_rfl
theorem lu {A B C D E Y:Type}{m:Option Shared}{f:Shared->A×B×C×D×E}{o:Shared->Y}{v:A×B×C×D×E}{y:Y}(h1:m.map (fun s=>(f s).1)=some v.1)(h2:m.map (fun s=>(f s).2.1)=some v.2.1)(h3:m.map (fun s=>((f s).2.2.1,(f s).2.2.2.1))=some (v.2.2.1,v.2.2.2.1))(h4:m.map (fun s=>(f s).2.2.2.2)=some v.2.2.2.2)(h5:m.map o=some y):m.map (fun s=>(f s,o s))=some (v,y):=by
 cases m with
 |none=>cases h5
 |some s=>
  have h3:=Option.some.inj h3;simp only[Prod.mk.injEq] at h3;exact congrArg some (Prod.ext (Prod.ext (Option.some.inj h1) (Prod.ext (Option.some.inj h2) (Prod.ext h3.1 (Prod.ext h3.2 (Option.some.inj h4))))) (Option.some.inj h5))
theorem pR (w:World)(os:OsState):(W.topRun treeTable pr w 11 (some (.ref 6)) (12+(1+(1600+(1500+1000)))) (s0 w os) (W.topStub pr)).bind (chk w)=mid w os:=by
 have q:=g4 w os;unfold mid at q ⊢;cases hr:W.topRun treeTable pr w 11 (some (.ref 6)) 1000 (iE w os) (W.restOf ((tp.drop 22).drop 21) ev (.body tp ev) ⟨167,0,221,37⟩ [W.topFrame ⟨0,0,0,0⟩]) with
 |none=>rw[hr] at q;cases q
 |some r=>
  have c:=W.piece_app (g9 w os) hr;rw[List.take_append_drop] at c;have c:=W.piece_app (g3 w os) c;rw[List.take_append_drop] at c;rw[W.go_top (g1 w os) (W.piece_block (g2 w os) c)]
theorem md {A:Type}{f:Shared->A}{x:Shared}{g:Shared->Option Shared}{m:Option Shared}{y:A}(h:m=some x)(k:(g x).map f=some y):(m.bind g).map f=some y:=by
 subst h;exact k
theorem ls (w:World):∃ os,W.fencedOpening treeTable pr w (12+(1+(1600+(1500+1000))))=some (s0 w os):=by
 have b:=W.boot_open (p:=pr) (N:=(12+(1+(1600+(1500+1000))))) (by kernel_rfl) (by kernel_rfl) (fun s=>by rfl) w;obtain⟨s,h0,e0⟩:=yX.mp b;obtain⟨hp,g,d,tk,os⟩:=s;simp only[Prod.mk.injEq] at e0;obtain⟨rfl,rfl,rfl,rfl⟩:=e0;exact⟨os,h0⟩
theorem hl:W.LeftO pr ax [] xt (W.kHook KP KA KE).obs (W.kHook KP KA KE).val (12+(1+(1600+(1500+1000)))):=by
 intro w;obtain⟨os,h0⟩:=ls w;unfold W.openEnds;refine md h0 ?_;rw[mi,pR];exact lu (f:=see) (v:=goo) (g5 w os) (g8 w os) (g7 w os) (g6 w os) (g4 w os)
end Law
namespace L2
open PySem PySem.Spec PyProof.Rows
abbrev Key:=Sum Int Str
def nN:Key->Value->Bool
 |.inl k,v=>Value.isInt k v
 |.inr x,v=>Value.isStrOf x v
def AF (w:World):Key->Int
 |.inl k=>hashInt k
 |.inr x=>hashStr w x
theorem Qw:∀ {k:Key} {v:Value},nN k v=true->(∃ i t,k=Sum.inl i/\v=Value.int i t)∨(∃ x t,k=Sum.inr x/\v=Value.str x t)
 |.inl i,v,h=>by
  obtain⟨t,e⟩:=Value.isInt_shape (k:=i) (v:=v) h;exact .inl ⟨i,t,rfl,e⟩
 |.inr x,v,h=>by
  obtain⟨t,e⟩:=Value.isStrOf_shape (x:=x) (v:=v) h;exact .inr ⟨x,t,rfl,e⟩
theorem pv (a b:Int):decide ((Sum.inl a:Key)=Sum.inl b)=(a==b):=by
 by_cases e:a=b
 ·subst e;simp
 ·have h:¬ (Sum.inl a:Key)=Sum.inl b:=fun q=>e (Sum.inl.inj q);rw[yC h];exact(beq_eq_false_iff_ne.mpr e).symm
theorem oH (a b:Str):decide ((Sum.inr a:Key)=Sum.inr b)=decide (a=b):=by
 by_cases e:a=b
 ·subst e;simp
 ·have h:¬ (Sum.inr a:Key)=Sum.inr b:=fun q=>e (Sum.inr.inj q);rw[yC h,yC e]
theorem rc (a:Int)(b:Str):decide ((Sum.inl a:Key)=Sum.inr b)=false:=yC (fun q=>nomatch q)
theorem rg (a:Str)(b:Int):decide ((Sum.inr a:Key)=Sum.inl b)=false:=yC (fun q=>nomatch q)
def qR (prog:Program)(w:World):PySem.KeyKind prog w Key where
 is:=nN
 hash:=AF w
 inj:=fun v a b ha hb=>by
  rcases Qw ha with ⟨i,t,rfl,rfl⟩|⟨x,t,rfl,rfl⟩
  ·rcases Qw hb with ⟨j,u,rfl,e⟩|⟨y,u,rfl,e⟩
   ·injection e with e1 _;rw[e1]
   ·exact nomatch e
  ·rcases Qw hb with ⟨j,u,rfl,e⟩|⟨y,u,rfl,e⟩
   ·exact nomatch e
   ·injection e with e1 _;rw[e1]
 byValue:=fun k v h=>by
  rcases Qw h with ⟨i,t,rfl,rfl⟩|⟨x,t,rfl,rfl⟩ <;> rfl
 pyHash:=fun hv h=>by
  rcases Qw hv with ⟨i,t,rfl,rfl⟩|⟨x,t,rfl,rfl⟩
  ·exact wpAny_pyHash_int h
  ·exact wpAny_pyHash_str h
 eqBool:=fun hu hv h=>by
  rcases Qw hu with ⟨i,t,rfl,rfl⟩|⟨x,t,rfl,rfl⟩
  ·rcases Qw hv with ⟨j,u,rfl,rfl⟩|⟨y,u,rfl,rfl⟩
   ·rw[pv] at h;exact wpAny_eqBool_int h
   ·rw[rc] at h;exact SeqAt.EqAt.int_str i t y u _ _ _ _ h
  ·rcases Qw hv with ⟨j,u,rfl,rfl⟩|⟨y,u,rfl,rfl⟩
   ·rw[rg] at h;exact SeqAt.EqAt.str_int x t j u _ _ _ _ h
   ·rw[oH] at h;exact wpAny_eqBool_str h
 «strs»:=fun k x t v h=>by
  rcases Qw h with ⟨i,u,rfl,e⟩|⟨y,u,rfl,e⟩
  ·exact nomatch e
  ·injection e with e1 _;subst e1;cases v <;> rfl
inductive V where
 |non|bl (b:Bool)|int (i:Int)|str (x:Str)|byt (b:Array UInt8)|flt (b:UInt64)|ref (a:Addr)|ty (n:String)
 deriving DecidableEq
def YA:V->Value->Prop
 |.non,u=>u=Value.none
 |.bl b,u=>u=Value.bool b
 |.int i,u=>∃ t,u=Value.int i t
 |.str x,u=>∃ t,u=Value.str x t
 |.byt b,u=>∃ t,u=Value.bytes b t
 |.flt b,u=>∃ t,u=Value.float b t
 |.ref a,u=>u=Value.ref a
 |.ty n,u=>u=Value.type n
abbrev YN:List V->List Value->Prop:=Paired YA
theorem YN.length {xs:List V}{us:List Value}(r:YN xs us):xs.length=us.length:=Paired.length r
theorem YN.get:∀ {xs:List V} {us:List Value} {i:Nat} {x:V},YN xs us->xs[i]?=some x->∃ u,us[i]?=some u/\YA x u
 |_,_,_,_,.nil,e=>by simp at e
 |_,_,0,_,.cons r _,e=>by simp at e;subst e;exact⟨_,rfl,r⟩
 |_,_,i+1,x,.cons _ t,e=>by
  obtain⟨u,h1,h2⟩:=YN.get (i:=i) (x:=x) t (by simpa using e);exact⟨u,by simpa using h1,h2⟩
theorem YN.set {x:V}{u:Value}(r:YA x u):∀ {xs:List V} {us:List Value} (i:Nat),YN xs us->YN (xs.set i x) (us.set i u)
 |_,_,_,.nil=>.nil
 |_,_,0,.cons _ t=>.cons r t
 |_,_,i+1,.cons q t=>.cons q (YN.set r i t)
theorem YN.append:∀ {xs ys:List V} {us ws:List Value},YN xs us->YN ys ws->YN (xs++ys) (us++ws)
 |_,_,_,_,.nil,s=>s
 |_,_,_,_,.cons r t,s=>.cons r (YN.append t s)
theorem YN.take:∀ {xs:List V} {us:List Value} (n:Nat),YN xs us->YN (xs.take n) (us.take n)
 |_,_,0,_=>.nil
 |_,_,_+1,.nil=>.nil
 |_,_,n+1,.cons r t=>.cons r (YN.take n t)
theorem YN.drop:∀ {xs:List V} {us:List Value} (n:Nat),YN xs us->YN (xs.drop n) (us.drop n)
 |_,_,0,r=>r
 |_,_,_+1,.nil=>.nil
 |_,_,n+1,.cons _ t=>YN.drop n t
def vd:Option V->Option Value->Prop
 |some v,some u=>YA v u
 |none,none=>True
 |_,_=>False
def KV {κ:Type}:List (κ×V)->List (κ×Value)->Prop:=Paired fun (p:κ×V) (q:κ×Value)=>p.1=q.1/\YA p.2 q.2
def kV:Key->V
 |.inl i=>.int i
 |.inr x=>.str x
inductive HO where
 |lst (xs:List V)
 |tup (xs:List V)
 |dK (kvs:List (Key×V))|dT (kvs:List (List Key×V))
 |set (S:Int->Bool) (n:Nat)
 |ins (C dx:Addr) (fs:List (Str×V))
 |own (x:Addr)
 |xd (fs:List (Str×V))
 |met (f x:Addr)
 |rng (lo hi:Int)
 |frz (o:Obj) (u:HO)
 |tbl (ps:Array Value)
 |ext (φ:Heap->Prop)
abbrev Hp:=Addr->Option HO
def upd (H:Hp)(a:Addr)(o:HO):Hp:=fun b=>if b=a then some o else H b
theorem yN {H:Hp}{a:Addr}{o:HO}:upd H a o a=some o:=by unfold upd;rw[ye rfl]
theorem yA {H:Hp}{a b:Addr}{o:HO}(h:b≠a):upd H a o b=H b:=by unfold upd;rw[yd h]
theorem tq {H:Hp}{a b:Addr}{o u:HO}(h:H a=some o)(h':H b=some u)(d:o≠u):a≠b:=by
 intro e;subst e;rw[h] at h';exact d (Option.some.inj h')
theorem yZ {H:Hp}{a b:Addr}{o:HO}(h:H a=some o)(h':H b=none):a≠b:=by
 intro e;subst e;rw[h] at h';cases h'
section
variable (P:Program)(w:World)
def qP (H:Hp)(h:Heap)(a:Addr):HO->Prop
 |.lst xs=>xs.length<=sizeLine/\∃ (its:List Value) (n:Nat),YN xs its/\h.get? a=some {cls:=.type "list", data:=.seq its.toArray n}
 |.tup xs=>xs.length<=sizeLine/\∃ its:List Value,YN xs its/\IsTup h a its.toArray
 |.dK kvs=>kvs.length<=sizeLine/\(a==sysModules)=false/\∃ vs,KV kvs vs/\h.DictOf (qR P w) a vs
 |.dT kvs=>kvs.length<=sizeLine/\(a==sysModules)=false/\∃ xs:List (List Key×Addr×Value),
   Paired (fun (p:List Key×V) (q:List Key×Addr×Value)=>p.1=q.1/\H q.2.1=some (.tup (p.1.map kV))/\YA p.2 q.2.2) kvs xs/\
   ∃ o es ep,h.get? a=some o/\o.ExactDict/\o.data=.dict es ep/\es.toList=xs.map (entryOfKey (tupleKind (qR P w)))/\(xs.map (·.1)).Nodup
 |.set S n=>h.SetOf (intKind P w) a S n
 |.ins C dx fs=>H dx=some (.own a)/\fs.length<=1000/\dx≠a/\h.get? a=some (W.instObj C dx)/\
   ∃ mA,h.Ns1 dx mA/\(∀ f,vd (fs.lookup f) (mA f))/\PySem.Within mA (fs.map (·.1))
 |.own _=>∃ o,h.get? a=some o
 |.xd fs=>∃ mA,h.Ns1 a mA/\∀ f,vd (fs.lookup f) (mA f)
 |.rng lo hi=>∃ t u v,h.get? a=some {cls:=.type "range", data:=.fields #[.int lo t,.int hi u,.int 1 v]}
 |.frz o u=>h.get? a=some o/\qP H h a u
 |.tbl ps=>h.get? a=some {cls:=.none,data:=.fields ps}
 |.met f x=>h.get? a=some (W.methodObj (.ref f) (.ref x))
 |.ext φ=>φ h/\(∃ o,h.get? a=some o)/\∀ h1 h2:Heap,φ h1->(∀ o,h1.get? a=some o->h2.get? a=some o)->φ h2
def HOk (H:Hp)(h:Heap):Prop:=∀ a o,H a=some o->qP P w H h a o
end
section
variable {P:Program}{w:World}{H H':Hp}{h h':Heap}{a:Addr}{o:HO}
theorem qP.lt (x:qP P w H h a o):a<h.objs.size:=by
 cases o with
 |lst xs=>obtain⟨_,_,_,_,e⟩:=x;exact yj e
 |tup xs=>obtain⟨_,_,_,p⟩:=x;exact p.lt
 |dK kvs=>obtain⟨_,_,_,_,o,_,_,e,_⟩:=x;exact yj e
 |dT kvs=>obtain⟨_,_,_,_,o,_,_,e,_⟩:=x;exact yj e
 |set S n=>obtain⟨o,_,_,_,e,_⟩:=x;exact yj e
 |ins C dx fs=>obtain⟨_,_,_,e,_⟩:=x;exact yj e
 |own y=>obtain⟨_,e⟩:=x;exact yj e
 |xd fs=>obtain⟨_,⟨_,_,_,e,_⟩,_⟩:=x;exact yj e
 |rng lo hi=>obtain⟨_,_,_,e⟩:=x;exact yj e
 |frz ob u=>obtain⟨e,_⟩:=x;exact yj e
 |tbl ps=>exact yj (show h.get? a=some _ from x)
 |met f y=>exact yj (show h.get? a=some _ from x)
 |ext φ=>obtain⟨_,⟨_,e⟩,_⟩:=x;exact yj e
theorem Paired.mapP {α β:Type}{F G:α->β->Prop}:∀ {l₁:List α} {l₂:List β},Paired F l₁ l₂->(∀ a b,F a b->G a b)->Paired G l₁ l₂
 |_,_,.nil,_=>.nil
 |_,_,.cons r t,f=>.cons (f _ _ r) (Paired.mapP t f)
theorem qP.stay (x:qP P w H h a o)(k:∀ b u,(b=a∨H b=some (.own a))->h.get? b=some u->h'.get? b=some u)
  (ho:∀ b,H b=some (.own a)->H' b=some (.own a)) (ht:∀ b xs,H b=some (.tup xs)->H' b=some (.tup xs)):qP P w H' h' a o:=by
 induction o with
 |lst xs=>obtain⟨z,its,n,r,e⟩:=x;exact⟨z,its,n,r,k _ _ (.inl rfl) e⟩
 |tup xs=>obtain⟨z,its,r,ob,e,c⟩:=x;exact⟨z,its,r,ob,k _ _ (.inl rfl) e,c⟩
 |dK kvs=>obtain⟨z,y,vs,r,ob,es,ep,e,c⟩:=x;exact⟨z,y,vs,r,ob,es,ep,k _ _ (.inl rfl) e,c⟩
 |dT kvs=>
  obtain⟨z,y,xs,r,ob,es,ep,e,c⟩:=x;exact⟨z,y,xs,Paired.mapP r fun p q z=>⟨z.1,ht _ _ z.2.1,z.2.2⟩,ob,es,ep,k _ _ (.inl rfl) e,c⟩
 |set S n=>obtain⟨ob,es,ep,t,e,c⟩:=x;exact⟨ob,es,ep,t,k _ _ (.inl rfl) e,c⟩
 |ins C dx fs=>
  obtain⟨d,z,ne,e,mA,⟨od,es,ep,e2,c⟩,r⟩:=x;exact⟨ho _ d,z,ne,k _ _ (.inl rfl) e,mA,⟨od,es,ep,k _ _ (.inr d) e2,c⟩,r⟩
 |own y=>obtain⟨ob,e⟩:=x;exact⟨ob,k _ _ (.inl rfl) e⟩
 |xd fs=>obtain⟨mA,⟨od,es,ep,e,c⟩,r⟩:=x;exact⟨mA,⟨od,es,ep,k _ _ (.inl rfl) e,c⟩,r⟩
 |rng lo hi=>obtain⟨t,u,v,e⟩:=x;exact⟨t,u,v,k _ _ (.inl rfl) e⟩
 |frz ob u ih=>obtain⟨e,q⟩:=x;exact⟨k _ _ (.inl rfl) e,ih q⟩
 |tbl ps=>
  have e:h.get? a=some {cls:=.none,data:=.fields ps}:=x;show h'.get? a=some {cls:=.none,data:=.fields ps};exact k a _ (.inl rfl) e
 |met f y=>
  have e:h.get? a=some (W.methodObj (.ref f) (.ref y)):=x;show h'.get? a=some (W.methodObj (.ref f) (.ref y));exact k a _ (.inl rfl) e
 |ext φ=>obtain⟨p,⟨o,e⟩,st⟩:=x;exact⟨st _ _ p fun o q=>k _ _ (.inl rfl) q,⟨o,k _ _ (.inl rfl) e⟩,st⟩
theorem HOk.lt (x:HOk P w H h)(e:H a=some o):a<h.objs.size:=(x a o e).lt
theorem HOk.fresh (x:HOk P w H h)(e:h.objs.size<=a):H a=none:=by
 cases q:H a with
 |none=>rfl
 |some u=>exact absurd (yE (x.lt q) e) (Qv _)
theorem HOk.kept (x:HOk P w H h)(k:∀ b u,h.get? b=some u->h'.get? b=some u):HOk P w H h':=fun a o e=>
 (x a o e).stay (fun b u _ q=>k b u q) (fun _ q=>q) fun _ _ q=>q
theorem HOk.laid (x:HOk P w H h)(k:∀ b u,h.get? b=some u->h'.get? b=some u)(hp:h.objs.size<=a)(new:qP P w (upd H a o) h' a o):HOk P w (upd H a o) h':=fun b u e=>by
 have hn:=x.fresh hp;by_cases hb:b=a
 ·subst hb;rw[yN] at e;cases e;exact new
 ·rw[yA hb] at e;exact(x b u e).stay (fun c v _ q=>k c v q) (fun c q=>by rw[yA (yZ q hn)];exact q) fun c xs q=>by rw[yA (yZ q hn)];exact q
end
def Rd (H:Hp)(a:Addr)(u:HO):Prop:=H a=some u∨∃ o,H a=some (.frz o u)
theorem Rd.ok {P:Program}{w:World}{H:Hp}{h:Heap}{a:Addr}{u:HO}(r:Rd H a u)(x:HOk P w H h):qP P w H h a u:=by
 rcases r with r|⟨o,r⟩
 ·exact x a u r
 ·obtain⟨_,q⟩:=x a _ r;exact q
def Mut:Option HO->Prop
 |some (.lst _)=>True
 |some (.dK _)=>True
 |some (.dT _)=>True
 |some (.set _ _)=>True
 |some (.ins _ _ _)=>True
 |some (.ext _)=>True
 |_=>False
section
variable {P:Program}{w:World}{H:Hp}{h h':Heap}{x e:Addr}{o':HO}
theorem HOk.write (ok:HOk P w H h)(mu:Mut (H x))(he:e=x∨H e=some (.own x))(k:∀ b u,b≠e->h.get? b=some u->h'.get? b=some u)(heo:∃ u,h'.get? e=some u)
  (new:qP P w (upd H x o') h' x o'):HOk P w (upd H x o') h':=fun b u q=>by
 have nown:∀ c y,H c=some (.own y)->c≠x:=fun c y r z=>by subst z;rw[r] at mu;exact mu
 have ntup:∀ c xs,H c=some (.tup xs)->c≠x:=fun c xs r z=>by subst z;rw[r] at mu;exact mu
 by_cases hb:b=x
 ·subst hb;rw[yN] at q;cases q;exact new
 ·rw[yA hb] at q;by_cases hbe:b=e
  ·have q':H b=some (.own x):=by
    rcases he with z|z
    ·exact absurd (hbe.trans z) hb
    ·rw[hbe];exact z
   rw[q] at q';cases q';obtain⟨v,hv⟩:=heo;exact⟨v,by rw[hbe];exact hv⟩
  ·refine(ok b u q).stay (fun c v hc r=>k c v ?_ r) (fun c r=>by rw[yA (nown c b r)];exact r) fun c xs r=>by rw[yA (ntup c xs r)];exact r
   rcases hc with rfl|hc
   ·exact hbe
   ·rintro rfl;rcases he with z|z
    ·exact nown c b hc z
    ·rw[hc] at z;cases z;exact hb rfl
end
structure Un (fs ex:List Addr)(H H':Hp)(h h':Heap):Prop where
 keep:∀ b o,h.get? b=some o->H b=none->b∉fs->b∉ex->h'.get? b=some o
 slot:∀ b o,h.get? b=some o->H b=none->b∈fs->b∉ex->∃ sl,h'.get? b=some {o with slots:=sl}
 free:∀ b o,h.get? b=some o->H b=none->b∉ex->H' b=none
 there:∀ b o,h.get? b=some o->b∉ex->∃ o',h'.get? b=some o'
 tups:∀ b xs,H b=some (.tup xs)->H' b=some (.tup xs)
 frzs:∀ b o u,H b=some (.frz o u)->H' b=some (.frz o u)
 tbls:∀ b ps,H b=some (.tbl ps)->∃ more,H' b=some (.tbl (ps++more))
section
variable {fs fs' ex ex':List Addr}{H H1 H2:Hp}{h h1 h2 h':Heap}{a x e:Addr}{o:HO}
theorem Un.any (u:Un fs ex H H1 h h1){b:Addr}{ob:Obj}(q:h.get? b=some ob)(n:H b=none)(hx:b∉ex):∃ sl,h1.get? b=some {ob with slots:=sl}:=by
 by_cases hb:b∈fs
 ·exact u.slot b ob q n hb hx
 ·exact⟨ob.slots,u.keep b ob q n hb hx⟩
theorem Un.kept (k:∀ b u,h.get? b=some u->h'.get? b=some u):Un fs ex H H h h':=
 ⟨fun b ob q _ _ _=>k b ob q,fun b ob q _ _ _=>⟨ob.slots,k b ob q⟩,fun _ _ _ n _=>n,fun b ob q _=>⟨ob,k b ob q⟩,fun _ _ q=>q,fun _ _ _ q=>q,fun _ ps q=>⟨#[],by rw[q];simp⟩⟩
theorem Un.refl:Un fs ex H H h h:=Un.kept fun _ _ q=>q
theorem Un.laid (k:∀ b u,h.get? b=some u->h'.get? b=some u)(hp:h.objs.size<=a)(hn:H a=none):Un fs ex H (upd H a o) h h' where
 keep:=fun b u q _ _ _=>k b u q
 slot:=fun b u q _ _ _=>⟨u.slots,k b u q⟩
 free:=fun b u q n _=>by rw[yA (yQ (yE (yj q) hp))];exact n
 there:=fun b u q _=>⟨u,k b u q⟩
 tups:=fun b xs q=>by rw[yA (yZ q hn)];exact q
 frzs:=fun b u xs q=>by rw[yA (yZ q hn)];exact q
 tbls:=fun b ps q=>⟨#[],by rw[yA (yZ q hn),q];simp⟩
theorem Un.write (mu:Mut (H x))(he:e=x∨H e=some (.own x))(k:∀ b u,b≠e->h.get? b=some u->h'.get? b=some u)(heo:∃ u,h'.get? e=some u):Un fs ex H (upd H x o) h h':=by
 have hx:∀ b,H b=none->b≠x:=fun b n z=>by subst z;rw[n] at mu;exact mu
 have hb:∀ b,H b=none->b≠e:=fun b n z=>by
  subst z;rcases he with r|r
  ·exact hx b n r
  ·rw[n] at r;cases r
 have hm:∀ b u,H b=some u->¬ Mut (some u)->b≠x:=fun b u q nm z=>by subst z;rw[q] at mu;exact nm mu
 refine⟨fun b u q n _ _=>k b u (hb b n) q,fun b u q n _ _=>⟨u.slots,k b u (hb b n) q⟩,fun b u q n _=>by rw[yA (hx b n)];exact n,fun b u q _=>?_,
  fun b xs q=>by rw[yA (hm b _ q fun z=>z)];exact q,fun b u xs q=>by rw[yA (hm b _ q fun z=>z)];exact q,fun b ps q=>⟨#[],by rw[yA (hm b _ q fun z=>z),q];simp⟩⟩
 by_cases hbe:b=e
 ·subst hbe;exact heo
 ·exact⟨u,k b u hbe q⟩
end
def trk (h:Heap)(H:Hp):List Addr:=(List.range h.objs.size).filter fun a=>(H a).isSome
def w9 (h:Heap)(H:Hp):Heap:=W.hideAll h (trk h H)
theorem cM (h:Heap)(H:Hp):(w9 h H).objs.size=h.objs.size:=W.hideAll_size _ _
theorem iO {h:Heap}{H:Hp}{b:Addr}{o:Obj}(e:h.get? b=some o)(n:H b=none):(w9 h H).get? b=some o:=
 W.hideAll_get _ e fun hm=>by
  have q:(H b).isSome=true:=(Yj.mp hm).2;rw[n] at q;simp at q
theorem l9 {h:Heap}{H:Hp}{b:Addr}{o:Obj}(e:(w9 h H).get? b=some o):h.get? b=some o/\H b=none:=by
 have e':h.get? b=some o:=W.of_hideAll (trk h H) e;refine⟨e',?_⟩;cases q:H b with
 |none=>rfl
 |some x=>
  have hm:b∈trk h H:=Yj.mpr ⟨jL.mpr (yj e'),by simp[q]⟩;have z:(w9 h H).get? b=none:=W.hideAll_none (trk h H) hm;rw[z] at e;cases e
structure Mod (K:W.Frag)(mg:Str->Option Value)(base:Heap):Prop where
 kin:K.In base
 glob:base.Ns mainGlobals mg
 blt:∃ mb,base.Ns builtinsNs mb/\∀ x:Str,x ≠ "__name__" -> mb x=bootBuiltins x
 nolimit:base.NoLimit
 seer:base.NoSeer
structure Cx where
 prog:Program
 w:World
 K:W.Frag
 mg:Str->Option Value
 base:Heap
 A:Around
 N:List Str
 s₀:Shared
 H₀:Hp
 env:Env
 outer:List Env
 stack:List Env
 ex:List Addr
 fn:Str->Bool
 calm:Bool
 pn:List (Addr×Obj)
 xe:Value->Shared->Prop
def frs (l:List Env):List Addr:=l.filterMap (·.frame)
abbrev Cx.fs (X:Cx):List Addr:=frs X.outer
def Vis (sc:Scope)(x:Str):Prop:=sc.names.lookup x=some .local∨sc.names.lookup x=some .cell∨sc.names.lookup x=some .free
def Loc (sc:Scope)(x:Str):Prop:=sc.names.lookup x=some .local∨sc.names.lookup x=some .cell
def Aq (env:Env)(h:Heap)(m:Str->Option Value)(x:Str)(u:Value):Prop:=
 (env.kindOf x=some .local/\m x=some u)∨((env.kindOf x=some .cell∨env.kindOf x=some .free)/\∃ c,env.cells.lookup x=some c/\h.IsCell c (some u))
structure Cx.Ok (X:Cx):Prop where
 mod:Mod X.K X.mg X.base
 kind:X.env.scope.kind=.function
 glob:X.env.globals=mainGlobals
 blt:X.env.builtins=builtinsNs
 above:X.s₀.heap.objs.size<=X.env.locals
 inj:∀ x y c,X.env.cells.lookup x=some c->X.env.cells.lookup y=some c->x=y
 has:∀ x,(X.env.kindOf x=some .cell∨X.env.kindOf x=some .free)->∃ c,X.env.cells.lookup x=some c
 cab:∀ x c,X.fn x=true->X.env.cells.lookup x=some c->X.s₀.heap.objs.size<=c
 hd:X.calm=true->X.A.handled=none
 frames:X.A.frames=some X.stack
 stk:X.stack=X.outer∨(X.stack=X.env::X.outer/\X.env.frame=some X.env.locals)
 exf:∀ b∈X.ex,b≠X.env.locals/\∀ x c,X.env.cells.lookup x=some c->c≠b
 bs:∀ b o,X.base.get? b=some o->X.s₀.heap.get? b=some o/\X.H₀ b=none
 bsz:X.base.objs.size<=X.s₀.heap.objs.size
 noex:∀ b o,X.base.get? b=some o->b∉X.ex
 exfs:∀ b∈X.ex,b∉X.fs
 funs:X.s₀.heap.FunFrames X.base X.outer
 frf:∀ b∈X.fs,X.H₀ b=none
structure Inv (X:Cx)(pins:List (Addr×Obj))(σ:List (Option V))(H:Hp)(s:Shared):Prop where
 ok:X.Ok
 os:s.os=X.s₀.os
 bare:AllBare s.gens
 base:Un X.fs X.ex X.H₀ H X.s₀.heap s.heap
 loc:∃ m,s.heap.Ns X.env.locals m/\∀ (i:Nat) (x:Str) (v:V),X.N[i]?=some x->σ[i]?=some (some v)->Vis X.env.scope x->∃ u,YA v u/\Aq X.env s.heap m x u
 cell:∀ x c,X.env.cells.lookup x=some c->∃ v,s.heap.IsCell c v
 free:H X.env.locals=none
 freeC:∀ x c,X.env.cells.lookup x=some c->H c=none
 pin:∀ p∈X.pn++pins,s.heap.get? p.1=some p.2/\H p.1=none/\p.1≠X.env.locals/\p.1∉X.fs/\∀ v,p.2.data≠.cell v
 hok:HOk X.prog X.w H s.heap
 len:σ.length=X.N.length
section
variable {X:Cx}{pins:List (Addr×Obj)}{σ:List (Option V)}{H H':Hp}{s:Shared}{h':Heap}
theorem Cx.Ok.nofr (ok:X.Ok){b:Addr}{o:Obj}(e:X.base.get? b=some o):b∉X.fs:=fun hb=>by
 have:=(ok.funs.mem hb).1;rw[e] at this;cases this
theorem Inv.bs (I:Inv X pins σ H s):∀ b o,X.base.get? b=some o->s.heap.get? b=some o/\H b=none:=fun b o e=>
 ⟨I.base.keep b o (I.ok.bs b o e).1 (I.ok.bs b o e).2 (I.ok.nofr e) (I.ok.noex b o e),I.base.free b o (I.ok.bs b o e).1 (I.ok.bs b o e).2 (I.ok.noex b o e)⟩
theorem Inv.bk (I:Inv X pins σ H s):∀ b o,X.base.get? b=some o->s.heap.get? b=some o:=fun b o e=>(I.bs b o e).1
theorem Inv.mod (I:Inv X pins σ H s):Mod X.K X.mg X.base:=I.ok.mod
theorem Inv.kIn (I:Inv X pins σ H s):X.K.In s.heap:=I.ok.mod.kin.keeps I.bk
theorem Inv.nolimit (I:Inv X pins σ H s):s.heap.NoLimit:=I.ok.mod.nolimit.keeps I.bk
theorem Inv.lt (I:Inv X pins σ H s):X.env.locals<s.heap.objs.size:=let ⟨_,hn,_⟩:=I.loc;hn.lt
theorem Inv.sz (I:Inv X pins σ H s):X.s₀.heap.objs.size<=s.heap.objs.size:=Ye I.ok.above (Nat.le_of_lt I.lt)
theorem Inv.nofs (I:Inv X pins σ H s){a:Addr}(h:s.heap.objs.size<=a):a∉X.fs:=fun hb=>by
 obtain⟨_,o,ho,_⟩:=I.ok.funs.mem hb;exact absurd (yE (yj ho) (Ye I.sz h)) (Qv _)
theorem Inv.cne (I:Inv X pins σ H s):∀ x c,X.env.cells.lookup x=some c->c≠X.env.locals:=fun x c e z=>by
 obtain⟨v,o,ho,hd⟩:=I.cell x c e;obtain⟨m,⟨o',es,ep,ho',hd',_⟩,_⟩:=I.loc;rw[z,ho'] at ho;cases ho;rw[hd'] at hd;cases hd
theorem Inv.funs (I:Inv X pins σ H s):s.heap.FunFrames X.base X.outer:=by
 have all:∀ (l:List Env),(∀ b∈frs l,b∈X.fs)->X.s₀.heap.FunFrames X.base l->s.heap.FunFrames X.base l:=by
  intro l
  induction l with
  |nil=>intro _ _;trivial
  |cons env r ih=>
   intro hs hl;obtain⟨hk,⟨L,o,hf,hn,ho,hd⟩,hr⟩:=hl;have hL:L∈X.fs:=hs L (by unfold frs;rw[List.filterMap_cons,hf];exact yp);obtain⟨sl,e⟩:=I.base.slot L o ho (I.ok.frf L hL) hL fun z=>I.ok.exfs L z hL;exact⟨hk,⟨L,_,hf,hn,e,hd⟩,ih (fun b hb=>hs b (by unfold frs;rw[List.filterMap_cons,hf];exact yc _ hb)) hr⟩
 exact all X.outer (fun _ hb=>hb) I.ok.funs
theorem Inv.stack (I:Inv X pins σ H s):s.heap.FunFrames X.base X.stack:=by
 rcases I.ok.stk with e|⟨e,hf⟩
 ·rw[e];exact I.funs
 ·rw[e];obtain⟨m,hn,_⟩:=I.loc;refine .cons (by rw[I.ok.kind];decide) hf hn ?_ I.funs;exact Heap.get?_none_of_le (Ye I.ok.bsz I.ok.above)
theorem Inv.stkSub (I:Inv X pins σ H s):∀ b∈frs X.stack,b∈X.env.locals::X.fs:=fun b hb=>by
 rcases I.ok.stk with e|⟨e,hf⟩
 ·rw[e] at hb;exact yc _ hb
 ·rw[e] at hb;unfold frs at hb;rw[List.filterMap_cons,hf] at hb;exact hb
theorem Inv.stkFree (I:Inv X pins σ H s):∀ b∈frs X.stack,H b=none:=fun b hb=>by
 rcases yP.mp (I.stkSub b hb) with e|hb
 ·rw[e];exact I.free
 ·obtain⟨_,o,ho,_⟩:=I.ok.funs.mem hb;exact I.base.free b o ho (I.ok.frf b hb) fun z=>I.ok.exfs b z hb
theorem Inv.step {g':Array GenState}{t':Nat}{d':Drawn}{ch:List Addr}(I:Inv X pins σ H s)
  (hch:∀ b∈ch,(b∈X.ex∨X.s₀.heap.objs.size<=b)/\b≠X.env.locals/\(∀ x c,X.env.cells.lookup x=some c->c≠b)/\∀ p∈X.pn++pins,p.1≠b)
  (keep:∀ b o,b≠X.env.locals->b∉X.fs->b∉ch->s.heap.get? b=some o->H b=none->h'.get? b=some o)
  (slot:∀ b o,b≠X.env.locals->b∈X.fs->b∉ch->s.heap.get? b=some o->H b=none->∃ sl,h'.get? b=some {o with slots:=sl}) (free:∀ b o,b∉ch->s.heap.get? b=some o->H b=none->H' b=none)
  (there:∀ b o,b∉ch->s.heap.get? b=some o->∃ o',h'.get? b=some o')
  (tups:∀ b xs,H b=some (.tup xs)->H' b=some (.tup xs)) (frzs:∀ b o u,H b=some (.frz o u)->H' b=some (.frz o u)) (tbls:∀ b ps,H b=some (.tbl ps)->∃ more,H' b=some (.tbl (ps++more)))
  (ns:∀ m,s.heap.Ns X.env.locals m->h'.Ns X.env.locals m) (hok:HOk X.prog X.w H' h') (hg:AllBare g') :
  Inv X pins σ H' {s with heap:=h',gens:=g',drawn:=d',toks:=t'}:=by
 have neL:∀ b o,X.s₀.heap.get? b=some o->b≠X.env.locals:=fun b o e=>yQ (yE (yj e) I.ok.above);have neC:∀ b o,X.s₀.heap.get? b=some o->b∉X.ex->b∉ch:=fun b o e hx hb=>by
  rcases (hch b hb).1 with z|z
  ·exact hx z
  ·exact absurd (yE (yj e) z) (Qv _)
 have cellK:∀ x c,X.env.cells.lookup x=some c->∀ v,s.heap.IsCell c v->h'.IsCell c v:=fun x c e v ⟨o,ho,hd⟩=>by
  have nch:c∉ch:=fun z=>(hch c z).2.2.1 x c e rfl;by_cases hc:c∈X.fs
  ·obtain⟨sl,q⟩:=slot c o (I.cne x c e) hc nch ho (I.freeC x c e);exact⟨_,q,hd⟩
  ·exact⟨o,keep c o (I.cne x c e) hc nch ho (I.freeC x c e),hd⟩
 refine⟨I.ok,I.os,hg,⟨fun b o e n hb hx=>?_,fun b o e n hb hx=>?_,fun b o e n hx=>?_,fun b o e hx=>?_,fun b xs e=>tups b xs (I.base.tups b xs e),fun b o xs e=>frzs b o xs (I.base.frzs b o xs e),fun b ps e=>?_⟩,?_,fun x c e=>?_,?_,fun x c e=>?_,fun p hp=>?_,hok,I.len⟩
 ·exact keep b o (neL b o e) hb (neC b o e hx) (I.base.keep b o e n hb hx) (I.base.free b o e n hx)
 ·obtain⟨sl,e1⟩:=I.base.slot b o e n hb hx;obtain⟨sl',e2⟩:=slot b _ (neL b o e) hb (neC b o e hx) e1 (I.base.free b o e n hx);exact⟨sl',e2⟩
 ·obtain⟨o',e1⟩:=I.base.there b o e hx;exact free b o' (neC b o e hx) e1 (I.base.free b o e n hx)
 ·obtain⟨o',e1⟩:=I.base.there b o e hx;exact there b o' (neC b o e hx) e1
 ·obtain⟨m1,e1⟩:=I.base.tbls b ps e;obtain⟨m2,e2⟩:=tbls b _ e1;exact⟨m1++m2,by rw[e2,Array.append_assoc]⟩
 ·obtain⟨m,hn,hl⟩:=I.loc;refine⟨m,ns m hn,fun i x v e1 e2 e3=>?_⟩;obtain⟨u,r,l⟩:=hl i x v e1 e2 e3;refine⟨u,r,?_⟩;rcases l with l|⟨k,c,e,z⟩
  ·exact .inl l
  ·exact .inr ⟨k,c,e,cellK x c e _ z⟩
 ·obtain⟨v,z⟩:=I.cell x c e;exact⟨v,cellK x c e v z⟩
 ·obtain⟨m,⟨o,_,_,ho,_⟩,_⟩:=I.loc;exact free _ o (fun z=>(hch _ z).2.1 rfl) ho I.free
 ·obtain⟨v,o,ho,hd⟩:=I.cell x c e;exact free c o (fun z=>(hch c z).2.2.1 x c e rfl) ho (I.freeC x c e)
 ·obtain⟨e,n,ne,nf,d⟩:=I.pin p hp;have nch:p.1∉ch:=fun z=>(hch p.1 z).2.2.2 p hp rfl;exact⟨keep p.1 p.2 ne nf nch e n,free p.1 p.2 nch e n,ne,nf,d⟩
theorem Inv.un {t':Nat}(I:Inv X pins σ H s)(u:Un X.fs [] H H' s.heap h')(hok:HOk X.prog X.w H' h'):Inv X pins σ H' {s with heap:=h',toks:=t'}:=by
 obtain⟨m,⟨o,es,ep,ho,r⟩,_⟩:=id I.loc;obtain⟨sl,hL⟩:=u.any ho I.free (by simp);exact I.step (g':=s.gens) (d':=s.drawn) (ch:=[]) (fun _ z=>nomatch z) (fun b o _ hb _ e n=>u.keep b o e n hb (by simp)) (fun b o _ hb _ e n=>u.slot b o e n hb (by simp)) (fun b o _ e n=>u.free b o e n (by simp)) (fun b o _ e=>u.there b o e (by simp)) u.tups u.frzs u.tbls (fun m' hm=>by
  obtain⟨o',es',ep',ho',r'⟩:=hm;rw[ho] at ho';cases ho';exact⟨_,es',ep',hL,r'⟩) hok I.bare
theorem Inv.call {g':Array GenState}{t':Nat}{d':Drawn}{ch:List Addr}(I:Inv X pins σ H s)(u:Un (frs X.stack) ch H H' s.heap h')(hok:HOk X.prog X.w H' h')(hg:AllBare g')
  (hch:∀ b∈ch,(b∈X.ex∨X.s₀.heap.objs.size<=b)/\b≠X.env.locals/\(∀ x c,X.env.cells.lookup x=some c->c≠b)/\∀ p∈X.pn++pins,p.1≠b) :
  Inv X pins σ H' {s with heap:=h',gens:=g',drawn:=d',toks:=t'}:=by
 obtain⟨m,⟨o,es,ep,ho,r⟩,_⟩:=id I.loc;obtain⟨sl,hL⟩:=u.any ho I.free fun z=>(hch _ z).2.1 rfl;exact I.step (ch:=ch) hch (fun b o hL hb hc e n=>u.keep b o e n (fun z=>(yP.mp (I.stkSub b z)).elim hL hb) hc) (fun b o _ _ hc e n=>u.any e n hc) (fun b o hc e n=>u.free b o e n hc) (fun b o hc e=>u.there b o e hc) u.tups u.frzs u.tbls (fun m' hm=>by
  obtain⟨o',es',ep',ho',r'⟩:=hm;rw[ho] at ho';cases ho';exact⟨_,es',ep',hL,r'⟩) hok hg
theorem Inv.turned {t':Nat}{it:Addr}(I:Inv X pins σ H s)(k:∀ b o,b≠it->s.heap.get? b=some o->h'.get? b=some o)(hn:H it=none)(hL:it≠X.env.locals)
  (h1:it∈X.ex∨X.s₀.heap.objs.size<=it) (h2:∀ x c,X.env.cells.lookup x=some c->c≠it) (h3:∀ p∈X.pn++pins,p.1≠it):Inv X pins σ H {s with heap:=h',toks:=t'}:=by
 have nit:∀ b u,H b=some u->b≠it:=fun b u e z=>by rw[z,hn] at e;cases e
 refine I.step (g':=s.gens) (d':=s.drawn) (ch:=[it]) (fun b hb=>?_) (fun b o _ _ hc e _=>k b o (fun z=>hc (by simp[z])) e) (fun b o _ _ hc e _=>⟨o.slots,k b o (fun z=>hc (by simp[z])) e⟩) (fun _ _ _ _ n=>n)
  (fun b o hc e=>⟨o,k b o (fun z=>hc (by simp[z])) e⟩) (fun _ _ e=>e) (fun _ _ _ e=>e) (fun b ps e=>⟨#[],by rw[e];simp⟩) (fun m hm=>?_) (fun b u e=>?_) I.bare
 ·have e:b=it:=by simpa using hb
  subst e;exact⟨h1,hL,h2,h3⟩
 ·obtain⟨o,es,ep,ho,r⟩:=hm;exact⟨o,es,ep,k _ o (Ne.symm hL) ho,r⟩
 ·refine(I.hok b u e).stay (fun c v hc q=>k c v ?_ q) (fun _ q=>q) fun _ _ q=>q;rcases hc with z|z
  ·rw[z];exact nit b u e
  ·exact nit c _ z
theorem Inv.tok (I:Inv X pins σ H s)(t:Nat):Inv X pins σ H {s with toks:=t}:=I.un (h':=s.heap) (t':=t) Un.refl I.hok
theorem Inv.kept {t':Nat}(I:Inv X pins σ H s)(k:∀ b u,s.heap.get? b=some u->h'.get? b=some u):Inv X pins σ H {s with heap:=h',toks:=t'}:=I.un (Un.kept k) (I.hok.kept k)
theorem Inv.laid {a:Addr}{o:HO}{t':Nat}(I:Inv X pins σ H s)(k:∀ b u,s.heap.get? b=some u->h'.get? b=some u)(hp:s.heap.objs.size<=a)(new:qP X.prog X.w (upd H a o) h' a o) :
  Inv X pins σ (upd H a o) {s with heap:=h',toks:=t'}:=I.un (Un.laid k hp (I.hok.fresh hp)) (I.hok.laid k hp new)
theorem Inv.write {x e:Addr}{o:HO}{t':Nat}(I:Inv X pins σ H s)(mu:Mut (H x))(he:e=x∨H e=some (.own x))(k:∀ b u,b≠e->s.heap.get? b=some u->h'.get? b=some u)(heo:∃ u,h'.get? e=some u)
  (new:qP X.prog X.w (upd H x o) h' x o):Inv X pins σ (upd H x o) {s with heap:=h',toks:=t'}:=I.un (Un.write mu he k heo) (I.hok.write mu he k heo new)
theorem Inv.pins_of {pins':List (Addr×Obj)}(I:Inv X pins σ H s)(h:∀ p∈pins',s.heap.get? p.1=some p.2/\H p.1=none/\p.1≠X.env.locals/\p.1∉X.fs/\∀ v,p.2.data≠.cell v):Inv X pins' σ H s:=
 ⟨I.ok,I.os,I.bare,I.base,I.loc,I.cell,I.free,I.freeC,fun p hp=>(qb.mp hp).elim (fun z=>I.pin p (Yw _ z)) (h p),I.hok,I.len⟩
theorem W6 {N:List Str}(hN:N.Nodup){i j:Nat}{x:Str}(a:N[i]?=some x)(b:N[j]?=some x):i=j:=by
 obtain⟨h1,e1⟩:=yh.mp a;obtain⟨h2,e2⟩:=yh.mp b;exact(List.getElem_inj hN).mp (e1.trans e2.symm)
theorem UW {M:Model}{A:Around}{E:Value->Shared->Prop}{i:Nat}{x:Str}{v:V}{u:Value}{Q:Unit->Shared->Prop}(I:Inv X pins σ H s)(hN:X.N.Nodup)(hi:X.N[i]?=some x)(hx:Loc X.env.scope x)(r:YA v u)
  (h:∀ s',Inv X pins (σ.set i (some v)) H s'->(∃ a,Heap.SameBut a s.heap s'.heap/\(a=X.env.locals∨X.env.cells.lookup x=some a))->Q () s') (hf:X.fn x=true∨X.env.scope.names.lookup x=some .local:=by first|exact .inl rfl|exact .inr rfl|assumption):wpAny M A (storeName X.env x u) Q E s:=by
 obtain⟨m,hn,hl⟩:=id I.loc;have hcls:(X.env.scope.kind==.class||(X.env.scope.kind==.module&&X.env.locals != X.env.globals))=false:=by rw[I.ok.kind];rfl
 have hiσ:i<σ.length:=by rw[I.len];exact(yh.mp hi).1
 have cne:=I.cne;have tracked:∀ {a:Addr} {h':Heap},(∃ o,s.heap.get? a=some o/\H a=none)->Heap.SameBut a s.heap h'->HOk X.prog X.w H h':=fun {a h'} ha hs b ob e=>by
  obtain⟨_,_,hfree⟩:=ha;refine(I.hok b ob e).stay (fun c w' hc q=>(hs.2 c ?_).trans q) (fun _ q=>q) fun _ _ q=>q;rintro rfl;rcases hc with rfl|hc
  ·rw[hfree] at e;cases e
  ·rw[hfree] at hc;cases hc
 rcases hx with hk|hk
 ·refine wpAny_storeName_local hk hn (fun h' hn' hs=>?_) hcls;obtain⟨oL,_,_,hoL,_⟩:=id hn;refine h _ ⟨I.ok,I.os,I.bare,⟨fun b o e n hb hx=>?_,fun b o e n hb hx=>?_,I.base.free,fun b o e hx=>?_,I.base.tups,I.base.frzs,I.base.tbls⟩,⟨_,hn',fun j y v' e1 e2 e3=>?_⟩,fun y c e=>?_,I.free,I.freeC,fun p hp=>?_,tracked ⟨oL,hoL,I.free⟩ hs,by simpa using I.len⟩ ⟨_,hs,.inl rfl⟩
  ·exact(hs.2 b (yQ (yE (yj e) I.ok.above))).trans (I.base.keep b o e n hb hx)
  ·obtain⟨sl,e1⟩:=I.base.slot b o e n hb hx;exact⟨sl,(hs.2 b (yQ (yE (yj e) I.ok.above))).trans e1⟩
  ·obtain⟨o',e1⟩:=I.base.there b o e hx;exact⟨o',(hs.2 b (yQ (yE (yj e) I.ok.above))).trans e1⟩
  ·by_cases hj:j=i
   ·subst hj;rw[hi] at e1;cases e1;rw[List.getElem?_set_self hiσ] at e2;cases e2;exact⟨u,r,.inl ⟨hk,by simp⟩⟩
   ·rw[YW (Ne.symm hj)] at e2;obtain⟨u',r',q⟩:=hl j y v' e1 e2 e3;refine⟨u',r',?_⟩;rcases q with ⟨k,e⟩|⟨k,c,e,z⟩
    ·refine .inl ⟨k,?_⟩;have:y≠x:=fun e=>hj (W6 hN e1 (e▸hi));simp[this,e]
    ·exact .inr ⟨k,c,e,z.sameBut hs (cne y c e)⟩
  ·obtain⟨w',z⟩:=I.cell y c e;exact⟨w',z.sameBut hs (cne y c e)⟩
  ·obtain⟨e,n,ne,nf,d⟩:=I.pin p hp;exact⟨(hs.2 p.1 ne).trans e,n,ne,nf,d⟩
 ·have hfn:X.fn x=true:=by
   rcases hf with z|z
   ·exact z
   ·rw[z] at hk;cases hk
  obtain⟨c,hc⟩:=I.ok.has x (.inl hk);obtain⟨w',z⟩:=I.cell x c hc;refine wpAny_storeName_cell I.ok.kind hk hc z (fun h' hc' hs=>?_);obtain⟨oc,hoc,hocd⟩:=id z;refine h {s with heap:=h'} ⟨I.ok,I.os,I.bare,⟨fun b o e n hb hx=>?_,fun b o e n hb hx=>?_,I.base.free,fun b o e hx=>?_,I.base.tups,I.base.frzs,I.base.tbls⟩,⟨m,hn.sameBut hs (Ne.symm (cne x c hc)),fun j y v' e1 e2 e3=>?_⟩,fun y c' e=>?_,I.free,I.freeC,fun p hp=>?_,tracked ⟨oc,hoc,I.freeC x c hc⟩ hs,by simpa using I.len⟩ ⟨c,hs,.inr hc⟩
  ·exact(hs.2 b (yQ (yE (yj e) (I.ok.cab x c hfn hc)))).trans (I.base.keep b o e n hb hx)
  ·obtain⟨sl,e1⟩:=I.base.slot b o e n hb hx;exact⟨sl,(hs.2 b (yQ (yE (yj e) (I.ok.cab x c hfn hc)))).trans e1⟩
  ·obtain⟨o',e1⟩:=I.base.there b o e hx;exact⟨o',(hs.2 b (yQ (yE (yj e) (I.ok.cab x c hfn hc)))).trans e1⟩
  ·by_cases hj:j=i
   ·subst hj;rw[hi] at e1;cases e1;rw[List.getElem?_set_self hiσ] at e2;cases e2;exact⟨u,r,.inr ⟨.inl hk,c,hc,hc'⟩⟩
   ·rw[YW (Ne.symm hj)] at e2;obtain⟨u',r',q⟩:=hl j y v' e1 e2 e3;refine⟨u',r',?_⟩;rcases q with q|⟨k,c',e,z'⟩
    ·exact .inl q
    ·refine .inr ⟨k,c',e,z'.sameBut hs ?_⟩;rintro rfl;exact hj (W6 hN e1 (I.ok.inj _ _ _ e hc▸hi))
  ·by_cases hcc:c'=c
   ·subst hcc;exact⟨_,hc'⟩
   ·obtain⟨w2,z2⟩:=I.cell y c' e;exact⟨w2,z2.sameBut hs hcc⟩
  ·obtain⟨e,n,ne,nf,d⟩:=I.pin p hp;refine⟨(hs.2 p.1 ?_).trans e,n,ne,nf,d⟩;intro q;rw[q,hoc] at e;have q':oc=p.2:=Option.some.inj e;exact d w' (by rw[←q'];exact hocd)
theorem xG {M:Model}{A:Around}{E:Value->Shared->Prop}{i:Nat}{x:Str}{v:V}{u:Value}{Q:Unit->Shared->Prop}(I:Inv X pins σ H s)(hN:X.N.Nodup)(hi:X.N[i]?=some x)(hx:Loc X.env.scope x)(r:YA v u)
  (h:∀ s',Inv X pins (σ.set i (some v)) H s'->Q () s') (hf:X.fn x=true∨X.env.scope.names.lookup x=some .local:=by first|exact .inl rfl|exact .inr rfl|assumption):wpAny M A (storeName X.env x u) Q E s:=
 UW I hN hi hx r (fun s' I' _=>h s' I') hf
theorem Inv.call' {s':Shared}{ch:List Addr}(I:Inv X pins σ H s)(ho:s'.os=s.os)(u:Un (frs X.stack) ch H H' s.heap s'.heap)(hok:HOk X.prog X.w H' s'.heap)(hg:AllBare s'.gens)
  (hch:∀ b∈ch,(b∈X.ex∨X.s₀.heap.objs.size<=b)/\b≠X.env.locals/\(∀ x c,X.env.cells.lookup x=some c->c≠b)/\∀ p∈X.pn++pins,p.1≠b):Inv X pins σ H' s':=by
 obtain⟨h',g',d',t',o'⟩:=s';have e:o'=s.os:=ho;subst e;exact I.call (g':=g') (t':=t') (d':=d') u hok hg hch
end
abbrev XK:=Value->Option Addr->Hp->Prop
abbrev St:=List (Option V)
abbrev VK:=V->Hp->Prop
abbrev TE:=St->Hp->VK->Prop
abbrev TT:=St->Hp->(Bool->Hp->Prop)->Prop
abbrev TA:=St->Hp->(List V->Hp->Prop)->Prop
structure Ends where
 nx:St->Hp->Prop
 rt:VK
 bk:St->Hp->Prop:=fun _ _=>False
 ct:St->Hp->Prop:=fun _ _=>False
abbrev TS:=Ends->St->Hp->Prop
inductive EP (X:Cx)(pins:List (Addr×Obj))(σ:St)(Q:VK)(u:Value)(s':Shared):Prop
 |mk (v:V) (H':Hp) (i:Inv X pins σ H' s') (r:YA v u) (q:Q v H')
inductive TP (X:Cx)(pins:List (Addr×Obj))(σ:St)(Q:Bool->Hp->Prop)(b:Bool)(s':Shared):Prop
 |mk (H':Hp) (i:Inv X pins σ H' s') (q:Q b H')
inductive AP (X:Cx)(pins:List (Addr×Obj))(σ:St)(Q:List V->Hp->Prop)(us:List Value)(s':Shared):Prop
 |mk (vs:List V) (H':Hp) (i:Inv X pins σ H' s') (r:YN vs us) (q:Q vs H')
def SP (X:Cx)(pins:List (Addr×Obj))(D:Ends)(f:Flow)(s':Shared):Prop:=
 match f with
 |.next=>∃ σ' H',Inv X pins σ' H' s'/\D.nx σ' H'
 |.brk=>∃ σ' H',Inv X pins σ' H' s'/\D.bk σ' H'
 |.cont=>∃ σ' H',Inv X pins σ' H' s'/\D.ct σ' H'
 |.ret u=>∃ v σ' H',Inv X pins σ' H' s'/\YA v u/\D.rt v H'
def PE (X:Cx)(e:Expr)(t:TE):Prop:=
 ∀ (pins:List (Addr×Obj)) (s:Shared) (σ:St) (H:Hp) (Q:VK),Inv X pins σ H s->t σ H Q->wpAny (model X.prog X.w) X.A (eval e X.env) (EP X pins σ Q) X.xe s
def PT (X:Cx)(e:Expr)(t:TT):Prop:=
 ∀ (pins:List (Addr×Obj)) (s:Shared) (σ:St) (H:Hp) (Q:Bool->Hp->Prop),Inv X pins σ H s->t σ H Q->wpAny (model X.prog X.w) X.A (isTrue e X.env (eval e X.env)) (TP X pins σ Q) X.xe s
def PW (X:Cx)(e:Expr)(t:TT):Prop:=
 ∀ (whole:Sem Value) (pins:List (Addr×Obj)) (s:Shared) (σ:St) (H:Hp) (Q:Bool->Hp->Prop),Inv X pins σ H s->t σ H Q->wpAny (model X.prog X.w) X.A (isTrue e X.env whole) (TP X pins σ Q) X.xe s
theorem PW.pt {X:Cx}{e:Expr}{t:TT}(h:PW X e t):PT X e t:=h _
def PA (X:Cx)(es:List Expr)(t:TA):Prop:=
 ∀ (pos:Pos) (pins:List (Addr×Obj)) (s:Shared) (σ:St) (H:Hp) (Q:List V->Hp->Prop),Inv X pins σ H s->t σ H Q->wpAny (model X.prog X.w) X.A (spliced (backTo pos (starEach es X.env))) (AP X pins σ Q) X.xe s
def PS (X:Cx)(st:Stmt)(t:TS):Prop:=
 ∀ (pins:List (Addr×Obj)) (s:Shared) (σ:St) (H:Hp) (D:Ends),Inv X pins σ H s->t D σ H->wpAny (model X.prog X.w) X.A (exec st X.env) (SP X pins D) X.xe s
def PSs (X:Cx)(st:List Stmt)(t:TS):Prop:=
 ∀ (pins:List (Addr×Obj)) (s:Shared) (σ:St) (H:Hp) (D:Ends),Inv X pins σ H s->t D σ H->wpAny (model X.prog X.w) X.A (execs st X.env) (SP X pins D) X.xe s
theorem thn {α:Type}{t:Sem α}{Q Q':α->Shared->Prop}{M:Model}{A:Around}{E:Value->Shared->Prop}{s:Shared}(h:wpAny M A t Q E s)(hQ:∀ a s,Q a s->Q' a s):wpAny M A t Q' E s:=YF h hQ fun _ _ x=>x
section
variable {X:Cx}
def Ak (i:Nat):TE:=fun σ H Q=>∃ v,σ[i]?=some (some v)/\Q v H
def tC (v:V):TE:=fun _ H Q=>Q v H
theorem aI {i:Nat}{x:Str}{pos:Pos}(hN:X.N[i]?=some x)(hv:Vis X.env.scope x)(hd:(x==("__debug__" : Str))=false:=by decide)(hcd:(x==("__classdict__" : Str))=false:=by decide):PE X (.Name x pos) (Ak i):=by
 intro pins s σ H Q I h;obtain⟨v,e,h⟩:=h;obtain⟨m,hn,hl⟩:=I.loc;obtain⟨u,r,l⟩:=hl i x v hN e hv;have fin:EP X pins σ Q u s:=⟨v,H,I,r,h⟩
 rcases l with ⟨hk,hm⟩|⟨hk,c,hc,hcell⟩
 ·exact wpAny_Name (wpAny_loadName_local I.ok.kind hk hn hm fin) hd
 ·rcases hk with hk|hk
  ·exact wpAny_Name (wpAny_loadName_cell I.ok.kind hk hc hcell fin) hd
  ·exact wpAny_Name (wpAny_loadName_free I.ok.kind hk hc hcell fin hcd) hd
theorem pd {i j pos}:PE X (.Constant (.int i) j pos) (tC (.int i)):=fun _ _ _ H _ I h=>wpAny_Constant_int ⟨.int i,H,I.tok _,⟨_,rfl⟩,h⟩
theorem sv {b j pos}:PE X (.Constant (.bool b) j pos) (tC (.bl b)):=fun _ _ _ H _ I h=>Constant_bool ⟨.bl b,H,I,rfl,h⟩
theorem oK {x j pos}:PE X (.Constant (.str x) j pos) (tC (.str x)):=fun _ _ _ H _ I h=>Calls.Constant_str ⟨.str x,H,I.tok _,⟨_,rfl⟩,h⟩
def Gl (X:Cx)(x:Str):Prop:=X.env.kindOf x=some .globalImplicit
theorem Wj {E:Value->Shared->Prop}{pins:List (Addr×Obj)}{s:Shared}{σ:St}{H:Hp}{x:Str}{u:Value}{pos:Pos}{Q:Value->Shared->Prop}(I:Inv X pins σ H s)(hg:Gl X x)(hm:X.mg x=some u)(h:Q u s)
  (hd:(x==("__debug__" : Str))=false:=by decide):wpAny (model X.prog X.w) X.A (eval (.Name x pos) X.env) Q E s:=
 Calls.Name_function_global I.ok.kind hg (Calls.loadGlobal_global (by rw[I.ok.glob];exact I.mod.glob.keeps I.bk) hm h) hd
theorem ZG {E:Value->Shared->Prop}{pins:List (Addr×Obj)}{s:Shared}{σ:St}{H:Hp}{x:Str}{u:Value}{pos:Pos}{Q:Value->Shared->Prop}(I:Inv X pins σ H s)(hg:Gl X x)(hm:X.mg x=none)(hv:bootBuiltins x=some u)(h:Q u s)
  (hn:x ≠ "__name__" :=by decide) (hd:(x==("__debug__" : Str))=false:=by decide):wpAny (model X.prog X.w) X.A (eval (.Name x pos) X.env) Q E s:=by
 obtain⟨mb,h1,h2⟩:=I.mod.blt;exact Calls.Name_function_global I.ok.kind hg (Calls.loadGlobal_builtin (by rw[I.ok.glob];exact I.mod.glob.keeps I.bk) hm (by rw[I.ok.blt];exact h1.keeps I.bk) ((h2 x hn).trans hv) h) hd
theorem lT {x:Str}{v:V}{u:Value}{pos:Pos}(hg:Gl X x)(hm:X.mg x=some u)(r:YA v u)(hd:(x==("__debug__" : Str))=false:=by decide):PE X (.Name x pos) (tC v):=
 fun _ _ _ H _ I h=>Wj I hg hm ⟨v,H,I,r,h⟩ hd
variable {a b:Expr}{ta tb:TE}{pos:Pos}
def tB (t:TE):TT:=fun σ H Q=>t σ H fun x H1=>∃ c,x=.bl c/\Q c H1
theorem o9 {e:Expr}{t:TE}(h:PE X e t)(he:∀ whole,isTrue e X.env whole=(do let v ←whole;standAt e.pos;holding [v] (truthy v)):=by intro _;rfl):PT X e (tB t):=by
 intro pins s σ H Q I hw;refine isTrue_plain (thn (h pins s σ H _ I hw) fun v s1 ⟨x,H1,I1,r1,q1⟩=>?_) (he _);obtain⟨d,rfl,q⟩:=q1;cases r1;exact Y1 ⟨H1,I1,q⟩
variable {tA tB':TT}{rest:List Expr}
def Ae (t u:TT):TT:=fun σ H Q=>t σ H fun c H1=>if c=true then u σ H1 Q else Q false H1
def tOr (t u:TT):TT:=fun σ H Q=>t σ H fun c H1=>if c=true then Q true H1 else u σ H1 Q
def Ay (t:TT):TT:=fun σ H Q=>t σ H fun c H1=>Q (!c) H1
theorem mS (ha:PT X a tA):PW X (.BoolOp .And [a] pos) tA:=by
 intro wh pins s σ H Q I h;refine isTrue_and (thn (ha pins s σ H Q I h) fun c s1 e=>?_);cases c with
 |true=>exact isTrue_and_nil e
 |false=>exact e
theorem re (ha:PT X a tA):PW X (.BoolOp .Or [a] pos) tA:=by
 intro wh pins s σ H Q I h;refine isTrue_or (thn (ha pins s σ H Q I h) fun c s1 e=>?_);cases c with
 |false=>exact isTrue_or_nil e
 |true=>exact e
theorem eF (ha:PT X a tA)(hb:PW X (.BoolOp .And (b::rest) pos) tB'):PW X (.BoolOp .And (a::b::rest) pos) (Ae tA tB'):=by
 intro wh pins s σ H Q I h;refine isTrue_and (thn (ha pins s σ H _ I h) fun c s1 ⟨H1,I1,q1⟩=>?_);cases c with
 |true=>exact hb wh pins s1 σ H1 Q I1 q1
 |false=>exact⟨H1,I1,q1⟩
theorem nT (ha:PT X a tA)(hb:PW X (.BoolOp .Or (b::rest) pos) tB'):PW X (.BoolOp .Or (a::b::rest) pos) (tOr tA tB'):=by
 intro wh pins s σ H Q I h;refine isTrue_or (thn (ha pins s σ H _ I h) fun c s1 ⟨H1,I1,q1⟩=>?_);cases c with
 |true=>exact⟨H1,I1,q1⟩
 |false=>exact hb wh pins s1 σ H1 Q I1 q1
theorem oA (ha:PT X a tA):PT X (.UnaryOp .Not a pos) (Ay tA):=by
 intro pins s σ H Q I h;exact isTrue_not (thn (ha pins s σ H (fun c H1=>Q (!c) H1) I h) fun _ _ ⟨H1,I1,q⟩=>⟨H1,I1,q⟩)
def sn (ta tb:TE):TE:=fun σ H Q=>ta σ H fun x H1=>∃ c,x=.bl c/\if c=true then tb σ H1 Q else Q (.bl false) H1
def Ar (ta tb:TE):TE:=fun σ H Q=>ta σ H fun x H1=>∃ c,x=.bl c/\if c=true then Q (.bl true) H1 else tb σ H1 Q
theorem pM {op}{t:TE}(h:PE X a t):PE X (.BoolOp op [a] pos) t:=fun pins s σ H Q I hw=>BoolOp_one (h pins s σ H Q I hw)
theorem gE (ha:PE X a ta)(hb:PE X (.BoolOp .And (b::rest) pos) tb):PE X (.BoolOp .And (a::b::rest) pos) (sn ta tb):=by
 intro pins s σ H Q I h;refine BoolOp_and (thn (ha pins s σ H _ I h) fun v s1 ⟨x,H1,I1,r1,q1⟩=>?_);obtain⟨c,rfl,q1⟩:=q1;cases r1;refine Y1 ?_;cases c with
 |true=>exact hb pins s1 σ H1 Q I1 q1
 |false=>exact⟨.bl false,H1,I1,rfl,q1⟩
theorem nW (ha:PE X a ta)(hb:PE X (.BoolOp .Or (b::rest) pos) tb):PE X (.BoolOp .Or (a::b::rest) pos) (Ar ta tb):=by
 intro pins s σ H Q I h;refine BoolOp_or (thn (ha pins s σ H _ I h) fun v s1 ⟨x,H1,I1,r1,q1⟩=>?_);obtain⟨c,rfl,q1⟩:=q1;cases r1;refine Y1 ?_;cases c with
 |false=>exact hb pins s1 σ H1 Q I1 q1
 |true=>exact⟨.bl true,H1,I1,rfl,q1⟩
def tIf (t:TT)(ta tb:TE):TE:=fun σ H Q=>t σ H fun c H1=>if c=true then ta σ H1 Q else tb σ H1 Q
theorem xL {c:Expr}(hc:PT X c tA)(ha:PE X a ta)(hb:PE X b tb):PE X (.IfExp c a b pos) (tIf tA ta tb):=by
 intro pins s σ H Q I h;refine wpAny_IfExp (thn (hc pins s σ H _ I h) fun d s1 ⟨H1,I1,q1⟩=>?_);cases d with
 |true=>exact ha pins s1 σ H1 Q I1 q1
 |false=>exact hb pins s1 σ H1 Q I1 q1
end
def SqL (K:W.Frag)(H:Hp)(a:Addr)(xs:List V):Prop:=
 Rd H a (.lst xs) ∨
  ∃ (o:Obj) (its:Array Value) (n:Nat),K.lookup a=some o/\o.cls=.type "list" /\ o.dict=none/\o.data=.seq its n/\its.size<=sizeLine/\YN xs its.toList
def SqT (K:W.Frag)(H:Hp)(a:Addr)(xs:List V):Prop:=
 Rd H a (.tup xs) ∨
  ∃ (o:Obj) (its:Array Value) (n:Nat),K.lookup a=some o/\o.cls=.type "tuple" /\ o.data=.seq its n/\its.size<=sizeLine/\YN xs its.toList
def Aw:Value->Option V
 |.none=>some .non
 |.bool b=>some (.bl b)
 |.int i _=>some (.int i)
 |.str x _=>some (.str x)
 |.bytes b _=>some (.byt b)
 |.float b _=>some (.flt b)
 |.ref a=>some (.ref a)
 |.type n=>some (.ty n)
 |_=>none
theorem YA.abs {x:V}{u:Value}(r:YA x u):Aw u=some x:=by
 cases x with
 |non=>cases r;rfl
 |bl _=>cases r;rfl
 |int _=>obtain⟨t,rfl⟩:=r;rfl
 |str _=>obtain⟨t,rfl⟩:=r;rfl
 |byt _=>obtain⟨t,rfl⟩:=r;rfl
 |flt _=>obtain⟨t,rfl⟩:=r;rfl
 |ref _=>cases r;rfl
 |ty _=>cases r;rfl
theorem YA.inj {x y:V}{u:Value}(r:YA x u)(q:YA y u):x=y:=Option.some.inj (r.abs.symm.trans q.abs)
theorem YN.inj:∀ {xs ys:List V} {us:List Value},YN xs us->YN ys us->xs=ys
 |_,_,_,.nil,.nil=>rfl
 |_,_,_,.cons r t,.cons r' t'=>by rw[r.inj r',YN.inj t t']
section
variable {X:Cx}{pins:List (Addr×Obj)}{σ:St}{H:Hp}{s:Shared}{a:Addr}{xs ys:List V}
theorem SqL.of {K:W.Frag}(h:H a=some (.lst xs)):SqL K H a xs:=.inl (.inl h)
theorem Inv.list (I:Inv X pins σ H s)(h:SqL X.K H a xs):∃ its:List Value,YN xs its/\PlainL s.heap a its.toArray/\xs.length<=sizeLine:=by
 rcases h with h|⟨o,its,n,hk,hc,hd,hs,hz,r⟩
 ·obtain⟨z,its,n,r,e⟩:=h.ok I.hok;exact⟨its,r,⟨_,n,e,rfl,rfl,rfl⟩,z⟩
 ·refine⟨its.toList,r,⟨o,n,I.kIn a o hk,hc,hd,by simpa using hs⟩,?_⟩;have e:=r.length;simp only[Array.length_toList] at e;omega
theorem Inv.tuple (I:Inv X pins σ H s)(h:SqT X.K H a xs):∃ its:List Value,YN xs its/\IsTup s.heap a its.toArray/\xs.length<=sizeLine:=by
 rcases h with h|⟨o,its,n,hk,hc,hs,hz,r⟩
 ·obtain⟨z,its,r,p⟩:=h.ok I.hok;exact⟨its,r,p,z⟩
 ·refine⟨its.toList,r,⟨o,I.kIn a o hk,hc,n,by simpa using hs⟩,?_⟩;have e:=r.length;simp only[Array.length_toList] at e;omega
theorem Inv.list_inj (I:Inv X pins σ H s)(h:SqL X.K H a xs)(h':SqL X.K H a ys):xs=ys:=by
 obtain⟨its,r,⟨o,n,e,_,_,d⟩,_⟩:=I.list h;obtain⟨its',r',⟨o',n',e',_,_,d'⟩,_⟩:=I.list h';rw[e] at e';cases e';rw[d] at d';injection d' with d1 _;have:its=its':=by simpa using congrArg Array.toList d1
 subst this;exact r.inj r'
theorem Inv.tuple_inj (I:Inv X pins σ H s)(h:SqT X.K H a xs)(h':SqT X.K H a ys):xs=ys:=by
 obtain⟨its,r,⟨o,e,_,n,d⟩,_⟩:=I.tuple h;obtain⟨its',r',⟨o',e',_,n',d'⟩,_⟩:=I.tuple h';rw[e] at e';cases e';rw[d] at d';injection d' with d1 _;have:its=its':=by simpa using congrArg Array.toList d1
 subst this;exact r.inj r'
end
abbrev Cx.wish (X:Cx)(E:Value->Shared->Prop):Cx:={X with xe:=E}
abbrev Cx.nox (X:Cx):Cx:=X.wish fun _ _=>False
theorem Cx.Ok.wish {X:Cx}(ok:X.Ok)(E:Value->Shared->Prop):(X.wish E).Ok:=
 ⟨ok.mod,ok.kind,ok.glob,ok.blt,ok.above,ok.inj,ok.has,ok.cab,ok.hd,ok.frames,ok.stk,ok.exf,ok.bs,ok.bsz,ok.noex,ok.exfs,ok.funs,ok.frf⟩
theorem Cx.Ok.unwish {X:Cx}{E:Value->Shared->Prop}(ok:(X.wish E).Ok):X.Ok:=
 ⟨ok.mod,ok.kind,ok.glob,ok.blt,ok.above,ok.inj,ok.has,ok.cab,ok.hd,ok.frames,ok.stk,ok.exf,ok.bs,ok.bsz,ok.noex,ok.exfs,ok.funs,ok.frf⟩
section
variable {X:Cx}{pins:List (Addr×Obj)}{σ:St}{H:Hp}{s:Shared}{E:Value->Shared->Prop}
theorem Inv.wish (I:Inv X pins σ H s)(E:Value->Shared->Prop):Inv (X.wish E) pins σ H s:=⟨I.ok.wish E,I.os,I.bare,I.base,I.loc,I.cell,I.free,I.freeC,I.pin,I.hok,I.len⟩
theorem Inv.unwish (I:Inv (X.wish E) pins σ H s):Inv X pins σ H s:=⟨I.ok.unwish,I.os,I.bare,I.base,I.loc,I.cell,I.free,I.freeC,I.pin,I.hok,I.len⟩
theorem SP.unwish {D:Ends}{f:Flow}{s':Shared}(h:SP (X.wish E) pins D f s'):SP X pins D f s':=by
 cases f with
 |next=>obtain⟨σ',H',I,q⟩:=h;exact⟨σ',H',I.unwish,q⟩
 |brk=>obtain⟨σ',H',I,q⟩:=h;exact⟨σ',H',I.unwish,q⟩
 |cont=>obtain⟨σ',H',I,q⟩:=h;exact⟨σ',H',I.unwish,q⟩
 |ret u=>obtain⟨v,σ',H',I,r,q⟩:=h;exact⟨v,σ',H',I.unwish,r,q⟩
theorem PSs.nox {st:List Stmt}{t:TS}(h:PSs X.nox st t):PSs X st t:=fun pins s σ H D I hw=>
 YF (h pins s σ H D (I.wish _) hw) (fun _ _ q=>q.unwish) fun _ _ z=>False.elim z
end
section
variable {X:Cx}{st:Stmt}{rest:List Stmt}{t u:TS}{e:Expr}{te:TE}{pos:Pos}
def sq:TS:=fun D σ H=>D.nx σ H
def Ap (t u:TS):TS:=fun D σ H=>t {D with nx:=u D} σ H
theorem mv:PSs X [] sq:=fun _ _ σ H _ I h=>wpAny_execs_nil ⟨σ,H,I,h⟩
theorem Y7 (h1:PS X st t)(h2:PSs X rest u):PSs X (st::rest) (Ap t u):=by
 intro pins s σ H D I h;refine wpAny_execs_cons (thn (h1 pins s σ H {D with nx:=u D} I h) fun f s1 q=>?_);cases f with
 |next=>
  obtain⟨σ',H',I',q⟩:=q;exact h2 pins s1 σ' H' D I' q
 |ret v=>exact q
 |brk=>exact q
 |cont=>exact q
theorem Inv.quiet {pins:List (Addr×Obj)}{σ:St}{H:Hp}{s:Shared}(I:Inv X pins σ H s):interactive X.env=false:=by simp[interactive,I.ok.kind]
def bX (te:TE):TS:=fun D σ H=>te σ H fun _ H1=>D.nx σ H1
theorem VL (he:PE X e te)(hs:swapsWith e none pos.line X.env=pure false:=by rfl):PS X (.Expr e pos) (bX te):=by
 intro pins s σ H D I h;exact wpAny_Expr_any (thn (he pins s σ H _ I h) fun v s1 ⟨x,H1,I1,r1,q1⟩=>⟨σ,H1,I1,q1⟩) I.quiet hs
def AD (te:TE):TS:=fun D σ H=>te σ H D.rt
theorem ii (he:PE X e te):PS X (.Return (some e) pos) (AD te):=by
 intro pins s σ H D I h;exact wpAny_Return_some (thn (he pins s σ H _ I h) fun v s1 ⟨x,H1,I1,r1,q1⟩=>⟨x,σ,H1,I1,r1,q1⟩)
def Am (c:TT)(t u:TS):TS:=fun D σ H=>c σ H fun b H1=>if b=true then t D σ H1 else u D σ H1
theorem fH {c:Expr}{a b:List Stmt}{tc:TT}(hc:PT X c tc)(ha:PSs X a t)(hb:PSs X b u):PS X (.If c a b pos) (Am tc t u):=by
 intro pins s σ H D I h;refine wpAny_If (thn (hc pins s σ H _ I h) fun d s1 ⟨H1,I1,q1⟩=>?_);cases d with
 |true=>exact ha pins s1 σ H1 D I1 q1
 |false=>exact hb pins s1 σ H1 D I1 q1
def oJ:TS:=fun _ _ _=>False
theorem vM {sts:List Stmt}:PSs X sts oJ:=fun _ _ _ _ _ _ h=>h.elim
end
abbrev TG:=V->St->Hp->(St->Hp->Prop)->Prop
abbrev TGs:=List V->St->Hp->(St->Hp->Prop)->Prop
def PG (X:Cx)(target:Expr)(t:TG):Prop:=
 ∀ (pins:List (Addr×Obj)) (s:Shared) (σ:St) (H:Hp) (v:V) (u:Value) (Q:St->Hp->Prop),Inv X pins σ H s->YA v u->t v σ H Q->
  wpAny (model X.prog X.w) X.A (assign target X.env u) (fun _ s'=>∃ σ' H',Inv X pins σ' H' s'/\Q σ' H') X.xe s
def PGs (X:Cx)(ts:List Expr)(t:TGs):Prop:=
 ∀ (pins:List (Addr×Obj)) (s:Shared) (σ:St) (H:Hp) (vs:List V) (us:List Value) (Q:St->Hp->Prop),Inv X pins σ H s->YN vs us->t vs σ H Q->
  wpAny (model X.prog X.w) X.A (assignInOrder ((assignEach ts X.env).map (·.2)) us) (fun _ s'=>∃ σ' H',Inv X pins σ' H' s'/\Q σ' H') X.xe s
abbrev nc:=V->V->V->Hp->(Hp->Prop)->Prop
def pj (X:Cx)(t:nc):Prop:=
 ∀ (pins:List (Addr×Obj)) (s:Shared) (σ:St) (H:Hp) (o i v:V) (ov iv u:Value) (Q:Hp->Prop),Inv X pins σ H s->YA o ov->YA i iv->YA v u->t o i v H Q->
  wpAny (model X.prog X.w) X.A (setItem ov iv u) (fun _ s'=>∃ H',Inv X pins σ H' s'/\Q H') X.xe s
section
variable {X:Cx}{pos:Pos}
def xM (i:Nat):TG:=fun v σ H Q=>Q (σ.set i (some v)) H
theorem lB {i:Nat}{x:Str}(hN:X.N.Nodup)(hi:X.N[i]?=some x)(hx:Loc X.env.scope x)(hf:X.fn x=true∨X.env.scope.names.lookup x=some .local:=by first|exact .inl rfl|exact .inr rfl|assumption):PG X (.Name x pos) (xM i):=by
 intro pins s σ H v u Q I r h;exact wpAny_assign_Name (xG I hN hi hx r (fun s' I'=>⟨_,H,I',h⟩) hf)
def Ac:TGs:=fun vs σ H Q=>vs=[]/\Q σ H
def nS (t:TG)(u:TGs):TGs:=fun vs σ H Q=>∃ v r,vs=v::r/\t v σ H fun σ' H'=>u r σ' H' Q
theorem mL:PGs X [] Ac:=by
 intro pins s σ H vs us Q I r h;obtain⟨e,h⟩:=h;subst e;cases r;exact assignInOrder_nil ⟨σ,H,I,h⟩
theorem gd {e:Expr}{es:List Expr}{t:TG}{u:TGs}(h1:PG X e t)(h2:PGs X es u)
  (hs:(assignEach (e::es) X.env).map (·.2)=assign e X.env::(assignEach es X.env).map (·.2):=by rfl):PGs X (e::es) (nS t u):=by
 intro pins s σ H vs us Q I r h;obtain⟨v,vr,e1,h⟩:=h;subst e1;cases r with
 |cons r rr=>
  rw[hs];refine assignInOrder_cons (thn (h1 pins s σ H _ _ _ I r h) fun _ s1 ⟨σ1,H1,I1,q1⟩=>?_);exact h2 pins s1 σ1 H1 _ _ Q I1 rr q1
def Av (K:W.Frag)(n:Nat)(t:TGs):TG:=fun v σ H Q=>∃ a xs,v=.ref a/\SqT K H a xs/\xs.length=n/\t xs σ H Q
theorem pc {es:List Expr}{k:Nat}{t:TGs}{n:Nat}(hc:X.calm=true)(h:PGs X es t)
  (hn:(assignEach es X.env).length=n:=by rfl) (hst:(assignEach es X.env).findIdx? (·.1)=none:=by rfl):PG X (.Tuple es k pos) (Av X.K n t):=by
 intro pins s σ H v u Q I r hw;obtain⟨a,xs,e1,hq,hl,hw⟩:=hw;subst e1;cases r;obtain⟨its,rv,ht,hz⟩:=I.tuple hq;refine assign_Tuple_tuple (I.ok.hd hc) ht (by simp[hn,←hl,rv.length]) hst fun h' hx=>?_;have I1:Inv X pins σ H {s with heap:=h'}:=I.kept (t':=s.toks) fun b o e=>hx b o (yQ (yj e)) e;exact h pins _ σ H xs _ Q I1 (by simpa using rv) hw
def Aa (to ti:TE)(t:nc):TG:=fun v σ H Q=>to σ H fun o H1=>ti σ H1 fun i H2=>t o i v H2 fun H3=>Q σ H3
theorem gp {o i:Expr}{to ti:TE}{t:nc}(ho:PE X o to)(hi:PE X i ti)(hs:pj X t)
  (ha:∀ v,assign (.Subscript o i pos) X.env v=(do
   let ov ←holding [v] (eval o X.env)
   let iv ←holding [v,ov] (eval i X.env)
   standAt pos
   holding [v,ov,iv] (setItem ov iv v)
   release [v,ov,iv] []):=by intro _;rfl):PG X (.Subscript o i pos) (Aa to ti t):=by
 intro pins s σ H v u Q I r h;rw[ha];refine ya (Yt (thn (ho pins s σ H _ I h) fun ov s1 ⟨x,H1,I1,r1,q1⟩=>?_));refine ya (Yt (thn (hi pins s1 σ H1 _ I1 q1) fun iv s2 ⟨y,H2,I2,r2,q2⟩=>?_));refine ya (wpAny_standAt (ya (Yt (thn (hs pins s2 σ H2 x y v ov iv u _ I2 r1 r2 r q2) fun _ s3 ⟨H3,I3,q3⟩=>?_))));exact wpAny_release ⟨σ,H3,I3,q3⟩
def oz (te:TE)(g:TG):TS:=fun D σ H=>te σ H fun x H1=>g x σ H1 D.nx
theorem iW {tg e:Expr}{te:TE}{g:TG}(he:PE X e te)(hg:PG X tg g)(hs:swapsWithSole [tg] e pos.line X.env=pure false:=by rfl)(hw:swappedStores [tg] e X.env=pure none:=by rfl)
  (h1:(assignEach [tg] X.env).map (·.2)=[assign tg X.env]:=by rfl):PS X (.Assign [tg] e pos) (oz te g):=by
 intro pins s σ H D I h;refine wpAny_Assign_stores (thn (he pins s σ H _ I h) fun v s1 ⟨x,H1,I1,r1,q1⟩=>?_) hs hw;rw[h1];exact thn (hg pins s1 σ H1 x v _ I1 r1 q1) fun _ s2 q=>q
theorem X4 {i:Nat}{x:Str}{e:Expr}{te:TE}{pos':Pos}(hN:X.N.Nodup)(hi:X.N[i]?=some x)(hx:Loc X.env.scope x)(he:PE X e te)(hs:swapsWith e (some (.Name x pos')) pos.line X.env=pure false:=by rfl)(hf:X.fn x=true∨X.env.scope.names.lookup x=some .local:=by first|exact .inl rfl|exact .inr rfl|assumption) :
  PS X (.Assign [.Name x pos'] e pos) (oz te (xM i)):=by
 intro pins s σ H D I h;refine wpAny_Assign_Name (thn (he pins s σ H _ I h) fun v s1 ⟨y,H1,I1,r1,q1⟩=>?_) hs;exact xG I1 hN hi hx r1 (fun s2 I2=>⟨_,H1,I2,q1⟩) hf
end
section
variable {X:Cx}{pos:Pos}
def rb (c:TT)(tb:TS):TS:=fun D σ H=>∃ W:Nat->St->Hp->Prop,(∃ m,W m σ H)/\∀ m σ H,W m σ H->
 c σ H fun b H1=>if b=true then ∃ N:St->Hp->Prop,(∀ σ' H',N σ' H'->∃ m',m'<m/\W m' σ' H')/\tb {D with nx:=N,ct:=N,bk:=D.nx} σ H1 else D.nx σ H1
theorem gB {c:Expr}{body:List Stmt}{tc:TT}{tb:TS}(hp:PassesOwn (model X.prog X.w) X.A X.env X.xe)(hc:PT X c tc)(hb:PSs X body tb):PS X (.While c body [] pos) (rb tc tb):=by
 intro pins s σ H D I h;obtain⟨W,⟨m0,w0⟩,turn⟩:=h;refine wpAny_While (codeAny_whileLoop (fun n s'=>∃ σ' H',Inv X pins σ' H' s'/\W n σ' H') ?_ m0 ⟨σ,H,I,w0⟩);rintro n s1 ⟨σ1,H1,I1,w1⟩;refine wpAny_passesOwn hp (thn (hc pins s1 σ1 H1 _ I1 (turn n σ1 H1 w1)) fun b s2 ⟨H2,I2,q2⟩=>?_);cases b with
 |true=>
  obtain⟨N,hN,q2⟩:=q2;rw[ye rfl];refine wpAny_passesOwn hp (thn (hb pins s2 σ1 H2 _ I2 q2) fun f s3 q3=>?_);cases f with
  |next=>
   obtain⟨σ3,H3,I3,n3⟩:=q3;obtain⟨m',hm,w3⟩:=hN σ3 H3 n3;exact⟨m',hm,σ3,H3,I3,w3⟩
  |cont=>
   obtain⟨σ3,H3,I3,n3⟩:=q3;obtain⟨m',hm,w3⟩:=hN σ3 H3 n3;exact⟨m',hm,σ3,H3,I3,w3⟩
  |brk=>exact q3
  |ret v=>exact q3
 |false=>
  rw[yd yw];exact wpAny_execs_nil ⟨σ1,H2,I2,q2⟩
end
structure It where
 go:Nat->Hp->Prop
 yld:Nat->Hp->V->Hp->Prop
 stop:Nat->Hp->Prop
def k7 (X:Cx)(pins:List (Addr×Obj))(H:Hp)(b:Addr):Prop:=
 H b=none/\b≠X.env.locals/\b∉X.fs/\(b∈X.ex∨X.s₀.heap.objs.size<=b)/\(∀ x c,X.env.cells.lookup x=some c->c≠b)/\∀ p∈X.pn++pins,p.1≠b
theorem Inv.fpOk {X:Cx}{pins:List (Addr×Obj)}{σ:St}{H H':Hp}{s:Shared}{b:Addr}(I:Inv X pins σ H s)(hb:s.heap.objs.size<=b)(hn:H' b=none):k7 X pins H' b:=by
 refine⟨hn,qN (yE I.lt hb),I.nofs hb,.inr (Ye I.sz hb),fun x c e z=>?_,fun p hp z=>?_⟩
 ·obtain⟨v,q⟩:=I.cell x c e;exact absurd (yE q.lt (by rw[z];exact hb)) (Qv _)
 ·exact absurd (yE (yj (I.pin p hp).1) (by rw[z];exact hb)) (Qv _)
structure Turn (P:Program)(w:World)(K:W.Frag)(tg:Expr)(J:It)(fp:List Addr)(it:Addr)(tn:Nat->Heap->Prop):Prop where
 mem:it∈fp
 obj:∀ i h,tn i h->∀ b∈fp,∃ o,h.get? b=some o/\∀ v,o.data≠.cell v
 keep:∀ i h h',tn i h->(∀ b∈fp,∀ o,h.get? b=some o->h'.get? b=some o)->tn i h'
 item:∀ (X:Cx),X.prog=P->X.w=w->X.K=K->X.calm=true->∀ (i:Nat) (pins:List (Addr×Obj)) (s:Shared) (σ:St) (H:Hp) (E:Value->Shared->Prop),Inv X pins σ H s->(∀ b∈fp,k7 X pins H b)->tn i s.heap->J.go i H->
  wpAny (model P w) X.A (pyNext (.ref it)) (fun r s1=>∃ u,r=some u/\
   wpAny (model P w) X.A (letOwnedTupleGo tg (.ref it) u) (fun _ s2=>∃ x H',Inv X pins σ H' s2/\YA x u/\J.yld i H x H'/\tn (i+1) s2.heap/\∀ b∈fp,H' b=none) E s1) E s
 done:∀ (X:Cx),X.prog=P->X.w=w->X.K=K->X.calm=true->∀ (i:Nat) (pins:List (Addr×Obj)) (s:Shared) (σ:St) (H:Hp) (E:Value->Shared->Prop),Inv X pins σ H s->(∀ b∈fp,k7 X pins H b)->tn i s.heap->J.stop i H->
  wpAny (model P w) X.A (pyNext (.ref it)) (fun r s1=>r=none/\Inv X pins σ H s1) E s
 self:∀ (A:Around) (i:Nat) (s:Shared) (Q:Value->Shared->Prop) (E:Value->Shared->Prop),tn i s.heap->Q (.ref it) s->wpAny (model P w) A (pyIter (.ref it)) Q E s
abbrev TI:=St->Hp->(It->Hp->Prop)->Prop
inductive PIE (X:Cx)(pins:List (Addr×Obj))(σ:St)(tg:Expr)(R:It->Hp->Prop)(itv:Value)(s2:Shared):Prop
 |mk (it:Addr) (fp:List Addr) (tn:Nat->Heap->Prop) (J:It) (H':Hp) (e:itv=.ref it) (i:Inv X pins σ H' s2) (t:Turn X.prog X.w X.K tg J fp it tn) (t0:tn 0 s2.heap) (f:∀ b∈fp,k7 X pins H' b) (r:R J H')
def PI (X:Cx)(tg iter:Expr)(wi:TI):Prop:=
 ∀ (pins:List (Addr×Obj)) (s:Shared) (σ:St) (H:Hp) (R:It->Hp->Prop),Inv X pins σ H s->wi σ H R->
  wpAny (model X.prog X.w) X.A (eval iter X.env) (fun v s1=>wpAny (model X.prog X.w) X.A (pyIter v) (PIE X pins σ tg R) X.xe s1) X.xe s
theorem xN {M:Model}{A:Around}{E:Value->Shared->Prop}{s:Shared}{tg:Expr}{it:Addr}{u:Value}{o:Obj}{n:String}{vs:Array Value}{Q:Unit->Shared->Prop}(ho:s.heap.get? it=some o)(hc:o.cls=.type n)(hd:o.data=.fields vs)
    (hn:["enumerate", "zip", "dict_itemiterator", "dict_reverseitemiterator", "odict_iterator", "itertools.zip_longest", "itertools.pairwise"].contains n=false) (hQ:Q () s):wpAny M A (letOwnedTupleGo tg (.ref it) u) Q E s:=by
  unfold letOwnedTupleGo;cases tg <;> first
    |exact yg hQ
    | (cases u <;> first
        |exact yg hQ
        | (refine ya (wpAny_load ho ?_)
           rw[hc,hd];show wpAny M A (if (["enumerate", "zip", "dict_itemiterator", "dict_reverseitemiterator", "odict_iterator", "itertools.zip_longest", "itertools.pairwise"].contains n&&vs[0]?==some (rawInt _))=true then _ else _) Q E s;rw[yd (by intro h;rw[hn,Bool.false_and] at h;cases h)];exact yg hQ))
def Itl (K:W.Frag)(a:Addr):It:=
 ⟨fun i H=>∃ xs x,SqL K H a xs/\xs[i]?=some x,fun i H x H'=>H'=H/\∀ xs,SqL K H a xs->xs[i]?=some x,fun i H=>∃ xs,SqL K H a xs/\xs.length<=i⟩
def Itt (K:W.Frag)(a:Addr):It:=
 ⟨fun i H=>∃ xs x,SqT K H a xs/\xs[i]?=some x,fun i H x H'=>H'=H/\∀ xs,SqT K H a xs->xs[i]?=some x,fun i H=>∃ xs,SqT K H a xs/\xs.length<=i⟩
def Itr (lo:Int)(n:Nat):It:=⟨fun i _=>i<n,fun i H x H'=>H'=H/\x=.int (lo+i),fun i _=>n<=i⟩
theorem dn {P:Program}{w:World}{K:W.Frag}{tg:Expr}(a it:Addr):Turn P w K tg (Itl K a) [it] it (fun i h=>h.IsListIter it a i) where
 mem:=by simp
 obj:=fun i h st b hb=>by
  have e:b=it:=by simpa using hb
  subst e;obtain⟨o,e,c,d⟩:=st;exact⟨o,e,fun v z=>by rw[d] at z;cases z⟩
 keep:=fun i h h' st k=>st.at fun o e=>k it (by simp) o e
 item:=by
  intro X hP hw hK hc i pins s σ H E I hf st hg;subst hP hw hK;obtain⟨xs,x,hq,hx⟩:=hg;obtain⟨its,rv,p,hz⟩:=I.list hq;obtain⟨u,hu,ru⟩:=rv.get hx;obtain⟨f0,f1,f2,f3,f4,f5⟩:=hf it (by simp);refine wpAny_pyNext_list_item st p.isList (x:=u) (by simpa using hu) fun h' st' sb=>?_;have I1:Inv X pins σ H {s with heap:=h'}:=I.turned (t':=s.toks) (fun b o hb e=>(sb.2 b hb).trans e) f0 f1 f3 f4 f5;obtain⟨o,e,c,d⟩:=id st';exact⟨u,rfl,xN (s:={s with heap:=h'}) e c d (by decide) ⟨x,H,I1,ru,⟨rfl,fun ys hy=>by rw[I.list_inj hy hq];exact hx⟩,st',fun b hb=>(hf b hb).1⟩⟩
 done:=by
  intro X hP hw hK hc i pins s σ H E I hf st hg;subst hP hw hK;obtain⟨xs,hq,hx⟩:=hg;obtain⟨its,rv,p,hz⟩:=I.list hq;obtain⟨f0,f1,f2,f3,f4,f5⟩:=hf it (by simp);have hl:=rv.length;exact wpAny_pyNext_list_end (I.ok.hd hc) st p.isList (by simp;omega) fun h' eb=>⟨rfl,I.turned (t':=s.toks) (fun b o hb e=>eb b o hb e) f0 f1 f3 f4 f5⟩
 self:=fun _ _ _ _ _ st h=>wpAny_pyIter_listiter st h
theorem XD {P:Program}{w:World}{K:W.Frag}{tg:Expr}(a it:Addr):Turn P w K tg (Itt K a) [it] it (fun i h=>h.IsTupleIter it a i) where
 mem:=by simp
 obj:=fun i h st b hb=>by
  have e:b=it:=by simpa using hb
  subst e;obtain⟨o,e,c,d⟩:=st;exact⟨o,e,fun v z=>by rw[d] at z;cases z⟩
 keep:=fun i h h' st k=>st.at fun o e=>k it (by simp) o e
 item:=by
  intro X hP hw hK hc i pins s σ H E I hf st hg;subst hP hw hK;obtain⟨xs,x,hq,hx⟩:=hg;obtain⟨its,rv,p,hz⟩:=I.tuple hq;obtain⟨u,hu,ru⟩:=rv.get hx;obtain⟨f0,f1,f2,f3,f4,f5⟩:=hf it (by simp);refine wpAny_pyNext_tuple_item st (show s.heap.IsTuple a its.toArray from p) (x:=u) (by simpa using hu) fun h' st' sb=>?_;have I1:Inv X pins σ H {s with heap:=h'}:=I.turned (t':=s.toks) (fun b o hb e=>(sb.2 b hb).trans e) f0 f1 f3 f4 f5;obtain⟨o,e,c,d⟩:=id st';exact⟨u,rfl,xN (s:={s with heap:=h'}) e c d (by decide) ⟨x,H,I1,ru,⟨rfl,fun ys hy=>by rw[I.tuple_inj hy hq];exact hx⟩,st',fun b hb=>(hf b hb).1⟩⟩
 done:=by
  intro X hP hw hK hc i pins s σ H E I hf st hg;subst hP hw hK;obtain⟨xs,hq,hx⟩:=hg;obtain⟨its,rv,p,hz⟩:=I.tuple hq;obtain⟨f0,f1,f2,f3,f4,f5⟩:=hf it (by simp);have hl:=rv.length;exact wpAny_pyNext_tuple_end (I.ok.hd hc) st (show s.heap.IsTuple a its.toArray from p) (by simp;omega) fun h' eb=>⟨rfl,I.turned (t':=s.toks) (fun b o hb e=>eb b o hb e) f0 f1 f3 f4 f5⟩
 self:=fun _ _ _ _ _ st h=>wpAny_pyIter_tupleiter st h
theorem ah {P:Program}{w:World}{K:W.Frag}{tg:Expr}(it:Addr)(lo:Int)(n:Nat):Turn P w K tg (Itr lo n) [it] it (fun i h=>IsRangeIter h it (lo+(i:Nat)*1) ((n:Int) - (i:Nat)) 1) where
 mem:=by simp
 obj:=fun i h st b hb=>by
  have e:b=it:=by simpa using hb
  subst e;exact⟨_,st,fun v z=>by
   have z':Data.fields _=Data.cell v:=z;cases z'⟩
 keep:=fun i h h' st k=>k it (by simp) _ st
 item:=by
  intro X hP hw hK hc i pins s σ H E I hf st hg;subst hP hw hK;obtain⟨f0,f1,f2,f3,f4,f5⟩:=hf it (by simp);have W:=Walks.range (prog:=X.prog) (w:=X.w) (I.ok.hd hc) it lo 1 n;refine W.item i s _ _ hg st fun v h' tk hv st' kk=>?_;obtain⟨t,rfl⟩:=hv;have I1:Inv X pins σ H {s with heap:=h',toks:=tk}:=I.turned (fun b o hb e=>kk b o (by simpa using hb) e) f0 f1 f3 f4 f5;refine⟨_,rfl,xN (s:={s with heap:=h',toks:=tk}) (n:="range_iterator") st' rfl rfl (by decide) ⟨.int (lo+i),H,I1,⟨t,?_⟩,⟨rfl,rfl⟩,st',fun b hb=>(hf b hb).1⟩⟩;rw[Int.mul_one]
 done:=by
  intro X hP hw hK hc i pins s σ H E I hf st hg;subst hP hw hK;obtain⟨f0,f1,f2,f3,f4,f5⟩:=hf it (by simp);exact wpAny_pyNext_range_end (I.ok.hd hc) st (by have:n<=i:=hg;omega) fun h' eb=>⟨rfl,I.turned (t':=s.toks) (fun b o hb e=>eb b o hb e) f0 f1 f3 f4 f5⟩
 self:=fun _ _ _ _ _ st h=>wpAny_pyIter_rangeiter st h
section
variable {X:Cx}{tg:Expr}
def sD (K:W.Frag)(tl:TE):TI:=fun σ H R=>tl σ H fun x H1=>∃ a,x=.ref a/\(∃ xs,SqL K H1 a xs)/\R (Itl K a) H1
def tZ (K:W.Frag)(tl:TE):TI:=fun σ H R=>tl σ H fun x H1=>∃ a,x=.ref a/\(∃ xs,SqT K H1 a xs)/\R (Itt K a) H1
theorem bq {l:Expr}{tl:TE}(hl:PE X l tl):PI X tg l (sD X.K tl):=by
 intro pins s σ H R I h;refine thn (hl pins s σ H _ I h) fun v s1 ⟨x,H1,I1,r1,q1⟩=>?_;obtain⟨a,e,⟨xs,hq⟩,q⟩:=q1;subst e;cases r1;obtain⟨its,rv,p,hz⟩:=I1.list hq;refine wpAny_pyIter_list p.isList ?_;refine⟨s1.heap.objs.size,[s1.heap.objs.size],_,_,H1,rfl,I1.kept (t':=s1.toks) fun b o e=>yk _ e,dn a _,⟨_,yu _ rfl,rfl,rfl⟩,fun b hb=>?_,q⟩;have e:b=s1.heap.objs.size:=by simpa using hb
 subst e;exact I1.fpOk (yo _) (I1.hok.fresh (yo _))
theorem rJ {l:Expr}{tl:TE}(hl:PE X l tl):PI X tg l (tZ X.K tl):=by
 intro pins s σ H R I h;refine thn (hl pins s σ H _ I h) fun v s1 ⟨x,H1,I1,r1,q1⟩=>?_;obtain⟨a,e,⟨xs,hq⟩,q⟩:=q1;subst e;cases r1;obtain⟨its,rv,p,hz⟩:=I1.tuple hq;refine wpAny_pyIter_tuple (show s1.heap.IsTuple a its.toArray from p) ?_;refine⟨s1.heap.objs.size,[s1.heap.objs.size],_,_,H1,rfl,I1.kept (t':=s1.toks) fun b o e=>yk _ e,XD a _,⟨_,yu _ rfl,rfl,rfl⟩,fun b hb=>?_,q⟩;have e:b=s1.heap.objs.size:=by simpa using hb
 subst e;exact I1.fpOk (yo _) (I1.hok.fresh (yo _))
theorem xn {pins:List (Addr×Obj)}{σ:St}{H:Hp}{s:Shared}{R:It->Hp->Prop}{E:Value->Shared->Prop}{lo hi:Int}{t u v:Tok}{tk:Nat}(I:Inv X pins σ H s)(h1:-(2 ^ 62)<=lo)(h2:lo<2 ^ 62)(h3:-(2 ^ 62)<=hi)(h4:hi<2 ^ 62)
  (q:R (Itr lo (hi - lo).toNat) H):wpAny (model X.prog X.w) X.A (pyIter (.ref s.heap.objs.size)) (PIE X pins σ tg R) E {s with heap:=s.heap.push {cls:=.type "range", data:=.fields #[.int lo t,.int hi u,.int 1 v]},toks:=tk}:=by
 refine wpAny_pyIter_range (IsRange.new ..) (small_one h1 h2 h3 h4) ?_;have I1:Inv X pins σ H {s with heap:=s.heap.push {cls:=.type "range", data:=.fields #[.int lo t,.int hi u,.int 1 v]},toks:=tk}:=I.kept fun b o e=>yk _ e;refine⟨(s.heap.push {cls:=.type "range", data:=.fields #[.int lo t,.int hi u,.int 1 v]}).objs.size,[(s.heap.push {cls:=.type "range", data:=.fields #[.int lo t,.int hi u,.int 1 v]}).objs.size],_,_,H,rfl,
  I1.kept (t':=tk) fun b o e=>yk _ e,ah _ lo (hi - lo).toNat,?_,fun b hb=>?_,q⟩
 ·have e1:lo+((0:Nat):Int)*1=lo:=by simp
  have e2:(((hi - lo).toNat:Nat):Int) - ((0:Nat):Int)=Builtin.Range.rangeSize lo hi 1:=by rw[rangeSize_one];split <;> omega
  show IsRangeIter _ _ (lo+((0:Nat):Int)*1) ((((hi - lo).toNat:Nat):Int) - ((0:Nat):Int)) 1;rw[e1,e2];exact yu _ rfl
 ·have e:b=(s.heap.push {cls:=.type "range", data:=.fields #[.int lo t,.int hi u,.int 1 v]}).objs.size:=by simpa using hb
  subst e;exact I1.fpOk (yo _) (I1.hok.fresh (yo _))
def sg (ta:TA):TI:=fun σ H R=>ta σ H fun vs H1=>∃ j:Int,vs=[.int j]/\-(2 ^ 62)<=j/\j<2 ^ 62/\R (Itr 0 j.toNat) H1
def tm (ta:TA):TI:=fun σ H R=>ta σ H fun vs H1=>∃ i j:Int,vs=[.int i,.int j]/\(-(2 ^ 62)<=i/\i<2 ^ 62/\-(2 ^ 62)<=j/\j<2 ^ 62)/\R (Itr i (j - i).toNat) H1
theorem cD {a:Expr}{ta:TA}{p pos:Pos}(hg:Gl X "range")(hm:X.mg "range" = none)(ha:PA X [a] ta)(hs:starEach [a] X.env=[(false,eval a X.env)]:=by rfl):PI X tg (.Call (.Name "range" p) [a] [] pos) (sg ta):=by
 intro pins s σ H R I h;refine Call_ (ZG I hg hm boot_range (PyProof.Rows.callWith_type1 (thn (ha pos pins s σ H _ I h) fun us s1 ⟨vs,H1,I1,r1,q1⟩=>?_) hs rfl));obtain⟨j,e,q1,q2,q⟩:=q1;subst e;cases r1 with
 |cons r rr=>
  cases rr;obtain⟨t,rfl⟩:=r;exact call_range_1 (xn I1 (by omega) (by omega) q1 q2 (by simpa using q))
theorem de {a b:Expr}{ta:TA}{p pos:Pos}(hg:Gl X "range")(hm:X.mg "range" = none)(ha:PA X [a,b] ta)(hs:starEach [a,b] X.env=[(false,eval a X.env),(false,eval b X.env)]:=by rfl)(hs2:starEach [b] X.env=[(false,eval b X.env)]:=by rfl) :
  PI X tg (.Call (.Name "range" p) [a,b] [] pos) (tm ta):=by
 intro pins s σ H R I h;refine Call_ (ZG I hg hm boot_range (PyProof.Rows.callWith_type1 (thn (ha pos pins s σ H _ I h) fun us s1 ⟨vs,H1,I1,r1,q1⟩=>?_) (by rw[hs,hs2]) (by rw[hs2];rfl)));obtain⟨i,j,e,⟨q1,q2,q3,q4⟩,q⟩:=q1;subst e;cases r1 with
 |cons r rr=>
  cases rr with
  |cons r' rr=>
   cases rr;obtain⟨t,rfl⟩:=r;obtain⟨t',rfl⟩:=r';exact call_range_2 (xn I1 q1 q2 q3 q4 q)
def As (wi:TI)(g:TG)(tb:TS):TS:=fun D σ H=>wi σ H fun J H1=>∃ W:Nat->Nat->St->Hp->Prop,(∃ m,W 0 m σ H1)/\∀ i m σ H,W i m σ H->
 (J.stop i H/\D.nx σ H)∨(J.go i H/\∃ N:St->Hp->Prop,(∀ σ' H',N σ' H'->∃ m',m'<m/\W (i+1) m' σ' H')/\∀ x H',J.yld i H x H'->g x σ H' fun σ2 H2=>tb {D with nx:=N,ct:=N,bk:=D.nx} σ2 H2)
def uE (fp:List Addr)(h:Heap):List (Addr×Obj):=fp.filterMap fun b=>(h.get? b).map fun o=>(b,o)
theorem Zu {fp:List Addr}{h:Heap}{b:Addr}{o:Obj}(hb:b∈fp)(e:h.get? b=some o):(b,o)∈uE fp h:=List.mem_filterMap.mpr ⟨b,hb,by rw[e];rfl⟩
theorem dI {fp:List Addr}{h:Heap}{p:Addr×Obj}(hp:p∈uE fp h):p.1∈fp/\h.get? p.1=some p.2:=by
 obtain⟨b,hb,e⟩:=List.mem_filterMap.mp hp;cases q:h.get? b with
 |none=>rw[q] at e;cases e
 |some o=>
  rw[q] at e;have e':(b,o)=p:=Option.some.inj e;subst e';exact⟨hb,q⟩
theorem Inv.pinned {pins:List (Addr×Obj)}{σ:St}{H:Hp}{s:Shared}{fp:List Addr}(I:Inv X pins σ H s)(hf:∀ b∈fp,k7 X pins H b)(ho:∀ b∈fp,∃ o,s.heap.get? b=some o/\∀ v,o.data≠.cell v):Inv X (pins++uE fp s.heap) σ H s:=
 I.pins_of fun p hp=>(qb.mp hp).elim (fun z=>I.pin p (yS _ z)) fun z=>by
  obtain⟨hb,e⟩:=dI z;obtain⟨f0,f1,f2,_⟩:=hf p.1 hb;obtain⟨o,e',d⟩:=ho p.1 hb;rw[e] at e';cases e';exact⟨e,f0,f1,f2,d⟩
theorem Inv.unpinned {pins pl:List (Addr×Obj)}{σ:St}{H:Hp}{s:Shared}(I:Inv X (pins++pl) σ H s):Inv X pins σ H s:=I.pins_of fun p hp=>I.pin p (yS _ (Yw _ hp))
theorem fF {iter:Expr}{body:List Stmt}{wi:TI}{g:TG}{tb:TS}{pos:Pos}(hp:PassesOwn (model X.prog X.w) X.A X.env X.xe)(hc:X.calm=true)(hi:PI X tg iter wi)(hg:PG X tg g)(hb:PSs X body tb)
  (hs:∀ x,foldedSetIterable iter X.env x=pure x:=by intro _;rfl):PS X (.For tg iter body [] pos) (As wi g tb):=by
 intro pins s σ H D I h;refine wpAny_For (thn (hi pins s σ H _ I h) fun v s1 h1=>thn h1 fun itv s2 h2=>?_) hs;obtain⟨it,fp,tn,J,H2,e,I2,T,st2,f2,W,⟨m0,w0⟩,turn⟩:=h2;subst e
 -- what stays true of the iterator's objects through the loop
 have stat:∀ {H':Hp},(∀ b∈fp,H' b=none)->∀ b∈fp,k7 X pins H' b:=fun hn b hb=>⟨hn b hb,(f2 b hb).2⟩
 refine codeAny_forLoop_any (fun n s'=>∃ i σ' H',Inv X pins σ' H' s'/\tn i s'.heap/\(∀ b∈fp,H' b=none)/\W i n σ' H') ?_ m0 ⟨0,σ,H2,I2,st2,fun b hb=>(f2 b hb).1,w0⟩;rintro n s3 ⟨i,σ3,H3,I3,st3,fr3,w3⟩;rcases turn i n σ3 H3 w3 with ⟨stop,qn⟩|⟨go,N,hN,step⟩
 ·refine wpAny_passesOwn hp (thn (T.done X rfl rfl rfl hc i pins s3 σ3 H3 X.xe I3 (stat fr3) st3 stop) fun r s4 ⟨hr,I4⟩=>?_);subst hr;exact wpAny_execs_nil ⟨σ3,H3,I4,qn⟩
 ·refine wpAny_passesOwn hp (thn (T.item X rfl rfl rfl hc i pins s3 σ3 H3 X.xe I3 (stat fr3) st3 go) fun r s4 ⟨u,hr,h4⟩=>?_);subst hr;refine wpAny_passesOwn hp (thn h4 fun _ s5 ⟨x,H5,I5,r5,y5,st5,fr5⟩=>?_);have I5':=I5.pinned (stat fr5) (T.obj _ _ st5);refine wpAny_passesOwn hp (thn (hg _ s5 σ3 H5 x u _ I5' r5 (step x H5 y5)) fun _ s6 ⟨σ6,H6,I6,q6⟩=>?_);refine wpAny_passesOwn hp (thn (hb _ s6 σ6 H6 _ I6 q6) fun f s7 q7=>?_);have again:∀ {σ7:St} {H7:Hp},Inv X (pins++uE fp s5.heap) σ7 H7 s7->N σ7 H7->∃ m,m<n/\∃ i σ' H',Inv X pins σ' H' s7/\tn i s7.heap/\(∀ b∈fp,H' b=none)/\W i m σ' H':=fun {σ7 H7} I7 n7=>by
   obtain⟨m',hm,w7⟩:=hN σ7 H7 n7;refine⟨m',hm,i+1,σ7,H7,I7.unpinned,T.keep _ _ _ st5 fun b hb o e=>(I7.pin (b,o) (yS _ (yS _ (Zu hb e)))).1,fun b hb=>?_,w7⟩;obtain⟨o,e,d⟩:=T.obj _ _ st5 b hb;exact(I7.pin (b,o) (yS _ (yS _ (Zu hb e)))).2.1
  cases f with
  |next=>obtain⟨σ7,H7,I7,n7⟩:=q7;exact again I7 n7
  |cont=>obtain⟨σ7,H7,I7,n7⟩:=q7;exact again I7 n7
  |brk=>obtain⟨σ7,H7,I7,q7⟩:=q7;exact⟨σ7,H7,I7.unpinned,q7⟩
  |ret v=>obtain⟨x7,σ7,H7,I7,r7,q7⟩:=q7;exact⟨x7,σ7,H7,I7.unpinned,r7,q7⟩
end
abbrev R2:=V->V->Hp->VK->Prop
def OpR (X:Cx)(f:Value->Value->Sem Value)(r:R2):Prop:=
 ∀ (pins:List (Addr×Obj)) (s:Shared) (σ:St) (H:Hp) (x y:V) (v u:Value) (Q:VK),Inv X pins σ H s->YA x v->YA y u->r x y H Q->
  wpAny (model X.prog X.w) X.A (f v u) (EP X pins σ Q) X.xe s
def Vk (X:Cx)(f:Value)(r:List V->Hp->VK->Prop):Prop:=
 ∀ (pins:List (Addr×Obj)) (s:Shared) (σ:St) (H:Hp) (xs:List V) (us:List Value) (Q:VK),Inv X pins σ H s->YN xs us->r xs H Q->
  wpAny (model X.prog X.w) X.A (call f us) (EP X pins σ Q) X.xe s
def tOp (r:R2)(ta tb:TE):TE:=fun σ H Q=>ta σ H fun x H1=>tb σ H1 fun y H2=>r x y H2 Q
def rI (C:Int->Int->Prop)(g:Int->Int->V):R2:=fun x y H Q=>∃ i j,x=.int i/\y=.int j/\C i j/\Q (g i j) H
def rI0 (g:Int->Int->V):R2:=fun x y H Q=>∃ i j,x=.int i/\y=.int j/\Q (g i j) H
section
variable {X:Cx}{a b c:Expr}{ta tb tc:TE}{pos:Pos}
theorem rh (ha:PE X a ta)(hb:PE X b tb){pins:List (Addr×Obj)}{s:Shared}{σ:St}{H:Hp}{R:V->V->Hp->Prop}(I:Inv X pins σ H s)
  (h:ta σ H fun x H1=>tb σ H1 fun y H2=>R x y H2) {Q:Value->Shared->Prop} {f:Value->Value->Sem Value}
  (hf:∀ v u s2 x y H2,Inv X pins σ H2 s2->YA x v->YA y u->R x y H2->wpAny (model X.prog X.w) X.A (f v u) Q X.xe s2) :
  wpAny (model X.prog X.w) X.A (eval a X.env) (fun v s₁=>wpAny (model X.prog X.w) X.A (eval b X.env) (fun u s₂=>wpAny (model X.prog X.w) X.A (f v u) Q X.xe s₂) X.xe s₁) X.xe s:=by
 refine thn (ha pins s σ H _ I h) fun v s1 ⟨x,H1,I1,r1,q1⟩=>?_;refine thn (hb pins s1 σ H1 _ I1 q1) fun u s2 ⟨y,H2,I2,r2,q2⟩=>?_;exact hf v u s2 x y H2 I2 r1 r2 q2
theorem nJ {op:Operator}{r:R2}(ho:OpR X (binaryOp op) r)(ha:PE X a ta)(hb:PE X b tb):PE X (.BinOp a op b pos) (tOp r ta tb):=by
 intro pins s σ H Q I h;exact wpAny_BinOp (rh ha hb I h fun v u s2 x y H2 I2 rx ry q=>ho pins s2 σ H2 x y v u Q I2 rx ry q)
theorem opI {f:Value->Value->Sem Value}{C:Int->Int->Prop}{g:Int->Int->Int}
  (rule:∀ (i j:Int) (t u:Tok) (s:Shared) (Q:Value->Shared->Prop) (E:Value->Shared->Prop),C i j->Q (.int (g i j) s.toks) {s with toks:=s.toks+1}->wpAny (model X.prog X.w) X.A (f (.int i t) (.int j u)) Q E s) :
  OpR X f (rI C fun i j=>.int (g i j)):=by
 intro pins s σ H x y v u Q I rx ry h;obtain⟨i,j,rfl,rfl,hc,q⟩:=h;obtain⟨t,rfl⟩:=rx;obtain⟨t',rfl⟩:=ry;exact rule i j t t' s _ _ hc ⟨.int (g i j),H,I.tok _,⟨_,rfl⟩,q⟩
theorem sy {f:Value->Value->Sem Value}{g:Int->Int->Int}
  (rule:∀ (i j:Int) (t u:Tok) (s:Shared) (Q:Value->Shared->Prop) (E:Value->Shared->Prop),Q (.int (g i j) s.toks) {s with toks:=s.toks+1}->wpAny (model X.prog X.w) X.A (f (.int i t) (.int j u)) Q E s) :
  OpR X f (rI0 fun i j=>.int (g i j)):=by
 intro pins s σ H x y v u Q I rx ry h;obtain⟨i,j,rfl,rfl,q⟩:=h;obtain⟨t,rfl⟩:=rx;obtain⟨t',rfl⟩:=ry;exact rule i j t t' s _ _ ⟨.int (g i j),H,I.tok _,⟨_,rfl⟩,q⟩
theorem nk {f:Value->Value->Sem Value}{g:Int->Int->Bool}
  (rule:∀ (i j:Int) (t u:Tok) (s:Shared) (Q:Value->Shared->Prop) (E:Value->Shared->Prop),Q (.bool (g i j)) s->wpAny (model X.prog X.w) X.A (f (.int i t) (.int j u)) Q E s) :
  OpR X f (rI0 fun i j=>.bl (g i j)):=by
 intro pins s σ H x y v u Q I rx ry h;obtain⟨i,j,rfl,rfl,q⟩:=h;obtain⟨t,rfl⟩:=rx;obtain⟨t',rfl⟩:=ry;exact rule i j t t' s _ _ ⟨.bl (g i j),H,I,rfl,q⟩
theorem rU:OpR X (binaryOp .Add) (rI0 fun i j=>.int (i+j)):=sy fun _ _ _ _ _ _ _ q=>add_int q
theorem rL:OpR X (binaryOp .Sub) (rI0 fun i j=>.int (i - j)):=sy fun _ _ _ _ _ _ _ q=>sub_int q
theorem rn:OpR X (binaryOp .Mod) (rI (fun _ j=>0<j) fun i j=>.int (i % j)):=opI fun i j _ _ _ _ _ hc q=>by
 have h1:(0:Int)<j:=hc;exact mod_int' (by omega) (by rw[Qp i (by omega)];exact q)
end
def nh:V->V->Bool
 |.non,.non=>true|.non,.int _=>true|.int _,.non=>true|.non,.bl _=>true|.bl _,.non=>true|.non,.str _=>true|.str _,.non=>true
 |.int _,.int _=>true|.bl _,.bl _=>true|.str _,.str _=>true|.byt _,.byt _=>true
 |.int _,.str _=>true|.str _,.int _=>true|.bl _,.str _=>true|.str _,.bl _=>true
 |_,_=>false
def rEq:R2:=fun x y H Q=>nh x y=true/\Q (.bl (decide (x=y))) H
def rNe:R2:=fun x y H Q=>nh x y=true/\Q (.bl (!decide (x=y))) H
theorem bY {i j:Int}:decide (V.int i=V.int j)=(i==j):=by
 rw[Yq];simp
theorem iZ {i j:Bool}:decide (V.bl i=V.bl j)=(i==j):=by
 rw[Yq];simp
theorem ca {i j:Str}:decide (V.str i=V.str j)=(i==j):=by
 rw[Yq];simp
theorem bt {i j:Array UInt8}:decide (V.byt i=V.byt j)=(i.toList==j.toList):=by
 rw[Yq];cases i;cases j;simp
section
variable {X:Cx}{a b c:Expr}{ta tb tc:TE}{pos:Pos}
theorem qj {pins:List (Addr×Obj)}{σ:St}{H:Hp}{s:Shared}{Q:VK}{k k':Bool}(I:Inv X pins σ H s)(q:Q (.bl k) H)(e:k=k'):EP X pins σ Q (.bool k') s:=by
 subst e;exact⟨.bl k,H,I,rfl,q⟩
theorem gw:OpR X (compareOp .Eq) rEq:=by
 intro pins s σ H x y v u Q I rx ry h;obtain⟨hs,q⟩:=h;cases x with
 |non=>
  cases rx;cases y with
  |non=>cases ry;exact PySem.EqNone.eq_none_none (qj I q (by simp))
  |bl j=>cases ry;exact PySem.EqNone.eq_none_bool (qj I q (by simp))
  |int j=>obtain⟨t',rfl⟩:=ry;exact PySem.EqNone.eq_none_int (qj I q (by simp))
  |str j=>obtain⟨t',rfl⟩:=ry;exact PySem.EqNone.eq_none_str (qj I q (by simp))
  |_=>exact absurd (show false=true from hs) yw
 |bl i=>
  cases rx;cases y with
  |non=>cases ry;exact PySem.EqNone.eq_bool_none (qj I q (by simp))
  |bl j=>cases ry;exact eq_bool (qj I q iZ)
  |str j=>obtain⟨t',rfl⟩:=ry;exact PySem.EqMixed.eq_bool_str (qj I q (by simp))
  |_=>exact absurd (show false=true from hs) yw
 |int i=>
  obtain⟨t,rfl⟩:=rx;cases y with
  |non=>cases ry;exact PySem.EqNone.eq_int_none (qj I q (by simp))
  |int j=>obtain⟨t',rfl⟩:=ry;exact eq_int (qj I q bY)
  |str j=>obtain⟨t',rfl⟩:=ry;exact PySem.EqMixed.eq_int_str (qj I q (by simp))
  |_=>exact absurd (show false=true from hs) yw
 |str i=>
  obtain⟨t,rfl⟩:=rx;cases y with
  |non=>cases ry;exact PySem.EqNone.eq_str_none (qj I q (by simp))
  |bl j=>cases ry;exact PySem.EqMixed.eq_str_bool (qj I q (by simp))
  |int j=>obtain⟨t',rfl⟩:=ry;exact PySem.EqMixed.eq_str_int (qj I q (by simp))
  |str j=>obtain⟨t',rfl⟩:=ry;exact eq_str (qj I q ca)
  |_=>exact absurd (show false=true from hs) yw
 |byt i=>
  obtain⟨t,rfl⟩:=rx;cases y with
  |byt j=>obtain⟨t',rfl⟩:=ry;exact W.eq_bytes (qj I q bt)
  |_=>exact absurd (show false=true from hs) yw
 |_=>cases y <;> exact absurd (show false=true from hs) yw
theorem sN:OpR X (compareOp .NotEq) rNe:=by
 intro pins s σ H x y v u Q I rx ry h;obtain⟨hs,q⟩:=h;cases x with
 |non=>
  cases rx;cases y with
  |non=>cases ry;exact PySem.EqNone.ne_none_none (qj I q (by simp))
  |bl j=>cases ry;exact PySem.EqNone.ne_none_bool (qj I q (by simp))
  |int j=>obtain⟨t',rfl⟩:=ry;exact PySem.EqNone.ne_none_int (qj I q (by simp))
  |str j=>obtain⟨t',rfl⟩:=ry;exact PySem.EqNone.ne_none_str (qj I q (by simp))
  |_=>exact absurd (show false=true from hs) yw
 |bl i=>
  cases rx;cases y with
  |non=>cases ry;exact PySem.EqNone.ne_bool_none (qj I q (by simp))
  |bl j=>cases ry;exact ne_bool (qj I q (congrArg not iZ))
  |str j=>obtain⟨t',rfl⟩:=ry;exact PySem.EqMixed.ne_bool_str (qj I q (by simp))
  |_=>exact absurd (show false=true from hs) yw
 |int i=>
  obtain⟨t,rfl⟩:=rx;cases y with
  |non=>cases ry;exact PySem.EqNone.ne_int_none (qj I q (by simp))
  |int j=>obtain⟨t',rfl⟩:=ry;exact ne_int (qj I q (congrArg not bY))
  |str j=>obtain⟨t',rfl⟩:=ry;exact PySem.EqMixed.ne_int_str (qj I q (by simp))
  |_=>exact absurd (show false=true from hs) yw
 |str i=>
  obtain⟨t,rfl⟩:=rx;cases y with
  |non=>cases ry;exact PySem.EqNone.ne_str_none (qj I q (by simp))
  |bl j=>cases ry;exact PySem.EqMixed.ne_str_bool (qj I q (by simp))
  |int j=>obtain⟨t',rfl⟩:=ry;exact PySem.EqMixed.ne_str_int (qj I q (by simp))
  |str j=>obtain⟨t',rfl⟩:=ry;exact ne_str (qj I q (congrArg not ca))
  |_=>exact absurd (show false=true from hs) yw
 |byt i=>
  obtain⟨t,rfl⟩:=rx;cases y with
  |byt j=>obtain⟨t',rfl⟩:=ry;exact W.ne_bytes (qj I q (congrArg not bt))
  |_=>exact absurd (show false=true from hs) yw
 |_=>cases y <;> exact absurd (show false=true from hs) yw
theorem sf:OpR X (compareOp .Lt) (rI0 fun i j=>.bl (decide (i<j))):=nk fun _ _ _ _ _ _ _ q=>lt_int q
theorem nH:OpR X (compareOp .LtE) (rI0 fun i j=>.bl (decide (i<=j))):=nk fun _ _ _ _ _ _ _ q=>le_int q
theorem sr:OpR X (compareOp .Gt) (rI0 fun i j=>.bl (decide (j<i))):=nk fun _ _ _ _ _ _ _ q=>gt_int q
theorem sd:OpR X (compareOp .GtE) (rI0 fun i j=>.bl (decide (j<=i))):=nk fun _ _ _ _ _ _ _ q=>ge_int q
theorem Xf (b:Expr){op:CmpOp}(h:op≠.In:=by decide)(h2:op≠.NotIn:=by decide):behindInMarks op b=false:=by
 have e1:(op==CmpOp.In)=false:=by cases op <;> first|rfl|exact absurd rfl h
 have e2:(op==CmpOp.NotIn)=false:=by cases op <;> first|rfl|exact absurd rfl h2
 cases b <;> simp[behindInMarks,e1,e2]
theorem mK {op:CmpOp}{r:R2}(ho:OpR X (compareOp op) r)(ha:PE X a ta)(hb:PE X b tb)(hm:behindInMarks op b=false):PE X (.Compare a [op] [b] pos) (tOp r ta tb):=by
 intro pins s σ H Q I h;exact wpAny_Compare1 (rh ha hb I h fun v u s2 x y H2 I2 rx ry q=>ho pins s2 σ H2 x y v u Q I2 rx ry q) hm
def si (t:TE):TT:=fun σ H Q=>t σ H fun x H'=>∃ k,x=.bl k/\Q k H'
theorem bz {op:CmpOp}{r:R2}(ho:OpR X (compareOp op) r)(ha:PE X a ta)(hb:PE X b tb)(hm:behindInMarks op b=false):PT X (.Compare a [op] [b] pos) (si (tOp r ta tb)):=by
 intro pins s σ H Q I h;refine wpAny_isTrue_Compare1 (thn (ha pins s σ H _ I h) fun v s1 ⟨x,H1,I1,r1,q1⟩=>thn (hb pins s1 σ H1 _ I1 q1) fun u s2 ⟨y,H2,I2,r2,q2⟩=>
  thn (ho pins s2 σ H2 x y v u _ I2 r1 r2 q2) fun c s3 ⟨z,H3,I3,r3,k,e,q3⟩=>?_) hm
 subst e;cases r3;exact Y1 ⟨H3,I3,q3⟩
def oY (r r':R2)(ta tb tc:TE):TE:=fun σ H Q=>ta σ H fun x H1=>tb σ H1 fun y H2=>r x y H2 fun z H3=>∃ k,z=.bl k/\
 (if k=true then tc σ H3 fun w' H4=>r' y w' H4 Q else Q (.bl false) H3)
theorem WN {op op':CmpOp}{r r':R2}(ho:OpR X (compareOp op) r)(ho':OpR X (compareOp op') r')(ha:PE X a ta)(hb:PE X b tb)(hc:PE X c tc)
  (hm:lastMarks [op,op'] [b,c]=false:=by with_unfolding_all rfl):PE X (.Compare a [op,op'] [b,c] pos) (oY r r' ta tb tc):=by
 intro pins s σ H Q I h;refine Compare_chain (thn (ha pins s σ H _ I h) fun v s1 ⟨x,H1,I1,r1,q1⟩=>chain_link (thn (hb pins s1 σ H1 _ I1 q1) fun u s2 ⟨y,H2,I2,r2,q2⟩=>
  thn (ho pins s2 σ H2 x y v u _ I2 r1 r2 q2) fun d s3 ⟨z,H3,I3,r3,k,e,q3⟩=>?_)) hm
 subst e;cases r3;refine Y1 ?_;cases k with
 |false=>exact ite_ff ⟨.bl false,H3,I3,rfl,q3⟩
 |true=>exact ite_tt (chain_last (thn (hc pins s3 σ H3 _ I3 q3) fun w' s4 ⟨z',H4,I4,r4,q4⟩=>ho' pins s4 σ H4 y z' u w' Q I4 r2 r4 q4))
theorem VU:(sizeLine:Nat)<2 ^ 63:=by rw[sizeLine_eq];decide
theorem ar:OpR X (binaryOp .Add) (fun x y H Q=>∃ i j,x=.str i/\y=.str j/\i.length+j.length<=sizeLine/\Q (.str (i++j)) H):=by
 intro pins s σ H x y v u Q I rx ry h;obtain⟨i,j,rfl,rfl,hz,q⟩:=h;obtain⟨t,rfl⟩:=rx;obtain⟨t',rfl⟩:=ry;exact add_str (fun t' tk=>⟨.str (i++j),H,I.tok _,⟨_,rfl⟩,q⟩) hz
theorem UI {x:V}{us:List Value}(r:YN [x] us):∃ u,us=[u]/\YA x u:=by
 cases r with
 |cons r1 r2=>cases r2;exact⟨_,rfl,r1⟩
end
structure ObjM (h:Heap)(x dx C:Addr)(mA:Str->Option Value):Prop where
 obj:h.get? x=some (W.instObj C dx)
 ns:h.Ns1 dx mA
 ne:dx≠x
theorem c8 {h:Heap}{dx:Addr}{mA:Str->Option Value}(n:h.Ns1 dx mA):∃ od,h.get? dx=some od/\∀ name,W.lookIn name od=some (mA name):=by
 obtain⟨o,es,ep,ho,hd,hk,_,hm⟩:=n;refine⟨o,ho,fun name=>?_⟩;have e:=hm name;unfold nsFind findBy at e;rw[←Array.find?_toList] at e;unfold W.lookIn;rw[hd];dsimp only;split
 ·rename_i y q;rw[q] at e;exact congrArg some e
 ·rename_i q;rw[q] at e;have a:es.toList.any (·.refKey)=false:=by
   rw[List.any_eq_false];intro y hy;obtain⟨z,t,hkey⟩:=hk y (Array.mem_toList_iff.mp hy);simp[DictEntry.refKey,hkey]
  have a':¬ es.toList.any (·.refKey)=true:=by rw[a];exact yw
  rw[yd a'];exact congrArg some e
theorem ObjM.look {h:Heap}{x dx C:Addr}{mA:Str->Option Value}(I:ObjM h x dx C mA):∃ od,W.InstAt h x (W.instObj C dx) C (some od)/\∀ name,W.lookIn name od=some (mA name):=
 let ⟨od,ho,hl⟩:=c8 I.ns
 ⟨od,⟨I.obj,rfl,rfl,ho⟩,hl⟩
section
variable {prog:Program}{w:World}{A:Around}{E:Value->Shared->Prop}{s:Shared}{K:W.Frag}{x dx C f:Addr}{mA:Str->Option Value}{name:Str}{v:Value}
theorem lV {expr:Bool}{Q:Value->Shared->Prop}(X:K.In s.heap)(I:ObjM s.heap x dx C mA)(hg:W.plainGet K C name=true)(hh:W.hasDictIn K C=true)
  (ha:W.findIn K (.ref C) name=some none) (hv:mA name=some v) (hv':W.handedIn v=true) (h:Q v {s with toks:=s.toks+1}) :
  wpAny (model prog w) A (getAttr (.ref x) name expr) Q E s:=by
 obtain⟨od,J,hl⟩:=I.look;exact W.get_value X J (W.plainGet_of hg).1 (W.findObj_own hh ha rfl (by rw[hl,hv])) hv' h
theorem gZ {pl:Sem Bool}{Q:Value×List Value->Shared->Prop}(X:K.In s.heap)(I:ObjM s.heap x dx C mA)(hg:W.plainGet K C name=true)
  (hf:W.findIn K (.ref C) name=some (some (.ref f))) (ht:W.isFn K (.ref f)=true) (hv:mA name=none) (h:Q (.ref f,[.ref x]) s) :
  wpAny (model prog w) A (getMethod (.ref x) name pl) Q E s:=by
 obtain⟨od,J,hl⟩:=I.look;exact W.method_fn X J (W.plainGet_of hg).1 (W.plainGet_of hg).2 hf (beq_iff_eq.mp ht) (by show(W.lookIn name od).map (·.isSome)=some false;rw[hl,hv];rfl) h
theorem ma {ns:List Str}{Q:Unit->Shared->Prop}(X:K.In s.heap)(I:ObjM s.heap x dx C mA)
  (hs:W.findIn K (.ref C) "__setattr__" = some (some (.builtin "object.__setattr__"))) (hp:W.plainOver K C=true) (ht:W.takerIn K C name=some none) (hh:W.hasDictIn K C=true)
  (hw:PySem.Within mA ns) (hsz:ns.length<=sizeLine)
  (h:∀ h',ObjM h' x dx C (fun y=>if y=name then some v else mA y)->Heap.SameBut dx s.heap h'->Q () {s with heap:=h',toks:=s.toks+2}) :
  wpAny (model prog w) A (setAttr (.ref x) name v) Q E s:=by
 obtain⟨od,J,hl⟩:=I.look;refine W.set_plain X J hs (W.osa_open (s:={s with toks:=s.toks+1}) (r:=none) X J hp ht fun b=>?_);obtain⟨cd,hc,hd'⟩:=W.any_some hh;have hx:s.heap.get? x=some ⟨.ref C,some dx,.plain,#[]⟩:=I.obj;refine ya (yg (ya (ya (wpAny_loadPart hx (ya (W.Looks.here (s:={s with toks:=s.toks+1}) (W.looks_clsIn X hc) ?_))))));rw[hd'];refine yg (a:=some dx) (ya (yg (ya ?_)));refine wpAny_nsSet1 (s:={s with toks:=s.toks+1}) I.ns fun h' hn2 hs2=>?_;obtain⟨oD,esD,epD,hoD,hdD,hcD⟩:=hn2.count (PySem.Within.cons name v hw);refine ya (wpAny_lookBehind hoD (by rw[hdD];exact pastItsLine_dict (Ye hcD (by rw[yI];omega))) ?_);exact yg (h _ ⟨(hs2.2 _ (Ne.symm I.ne)).trans I.obj,hn2,I.ne⟩ hs2)
theorem gb {R:Result->Shared->Prop}{vs:List Value}{kw:List (Str×Value)}(X:K.In s.heap)(hm:W.makesIn K C=true)
  (hi:W.findIn K (.ref C) "__init__" = some (some (.ref f))) (hf:W.typeIn K (.ref f)=some (.type "function"))
  (h:codeAny (model prog w) (A.under (.builtin "type.__call__" ⟨.ref C::vs,kw⟩)) (.call (.ref f) ⟨.ref (s.heap.objs.size+1)::vs,kw⟩) (W.InitBack (s.heap.objs.size+1) R)
   {s with heap:=(s.heap.push W.emptyDict).push (W.instObj C s.heap.objs.size)}) :
  codeAny (model prog w) A (.call (.ref C) ⟨vs,kw⟩) R s:=by
 obtain⟨hh,g,d,t,os⟩:=s;exact W.make_core (W.makes_of X hm) (W.looks_findIn X hi) (fun self=>W.bind_fn X self hf) (.inl rfl) h
end
def Z8 (f:Str)(v:V):List (Str×V)->List (Str×V)
 |[]=>[(f,v)]
 | (g,x)::r=>if g=f then (g,v)::r else (g,x)::Z8 f v r
theorem kO (f g:Str)(v:V):∀ fs:List (Str×V),(Z8 f v fs).lookup g=if g=f then some v else fs.lookup g
 |[]=>by
  show List.lookup g [(f,v)]=_;by_cases h:g=f
  ·have hb:(g==f)=true:=beq_iff_eq.mpr h;simp only[List.lookup,hb,ye h]
  ·have hb:(g==f)=false:=beq_eq_false_iff_ne.mpr h;simp only[List.lookup,hb,yd h]
 | (k,x)::r=>by
  have ih:=kO f g v r;rw[show Z8 f v ((k,x)::r)=(if k=f then (k,v)::r else (k,x)::Z8 f v r) from rfl];by_cases hk:k=f
  ·rw[ye hk];by_cases h:g=k
   ·have hb:(g==k)=true:=beq_iff_eq.mpr h;simp only[List.lookup,hb,ye (h.trans hk)]
   ·have hb:(g==k)=false:=beq_eq_false_iff_ne.mpr h;simp only[List.lookup,hb,yd (fun e:g=f=>h (e.trans hk.symm))]
  ·rw[yd hk];by_cases h:g=k
   ·have hb:(g==k)=true:=beq_iff_eq.mpr h;simp only[List.lookup,hb,yd (fun e:g=f=>hk (h.symm.trans e))]
   ·have hb:(g==k)=false:=beq_eq_false_iff_ne.mpr h;simp only[List.lookup,hb];exact ih
theorem kj (f:Str)(v:V):∀ fs:List (Str×V),f∈(Z8 f v fs).map (·.1)/\∀ g,g∈fs.map (·.1)->g∈(Z8 f v fs).map (·.1)
 |[]=>⟨by simp[Z8],fun g h=>by simp at h⟩
 | (k,x)::r=>by
  obtain⟨i1,i2⟩:=kj f v r;rw[show Z8 f v ((k,x)::r)=(if k=f then (k,v)::r else (k,x)::Z8 f v r) from rfl];by_cases hk:k=f
  ·rw[ye hk];subst hk;exact⟨by simp,fun g h=>by simpa using h⟩
  ·rw[yd hk];refine⟨?_,fun g h=>?_⟩
   ·rw[yy];exact yc _ i1
   ·rw[yy] at h ⊢;rcases yP.mp h with e|e
    ·exact yP.mpr (.inl e)
    ·exact yc _ (i2 g e)
theorem kM (f:Str)(v:V):∀ fs:List (Str×V),(Z8 f v fs).length<=fs.length+1
 |[]=>by simp[Z8]
 | (k,x)::r=>by
  have ih:=kM f v r;rw[show Z8 f v ((k,x)::r)=(if k=f then (k,v)::r else (k,x)::Z8 f v r) from rfl];by_cases hk:k=f
  ·rw[ye hk,yI,yI];omega
  ·rw[yd hk,yI,yI];omega
theorem vd.some_of {v:V}{o:Option Value}(r:vd (some v) o):∃ u,o=some u/\YA v u:=by
 cases o with
 |none=>exact(show False from r).elim
 |some u=>exact⟨u,rfl,r⟩
theorem vd.none_of {o:Option Value}(r:vd none o):o=none:=by
 cases o with
 |none=>rfl
 |some u=>exact(show False from r).elim
theorem du {v:V}{u:Value}(r:YA v u):W.handedIn u=true:=by
 cases v with
 |non=>cases (show u=Value.none from r);rfl
 |bl b=>cases (show u=Value.bool b from r);rfl
 |int i=>obtain⟨t,e⟩:=(show ∃ t,u=Value.int i t from r);cases e;rfl
 |str x=>obtain⟨t,e⟩:=(show ∃ t,u=Value.str x t from r);cases e;rfl
 |byt b=>obtain⟨t,e⟩:=(show ∃ t,u=Value.bytes b t from r);cases e;rfl
 |flt b=>obtain⟨t,e⟩:=(show ∃ t,u=Value.float b t from r);cases e;rfl
 |ref a=>cases (show u=Value.ref a from r);rfl
 |ty n=>cases (show u=Value.type n from r);rfl
section
variable {P:Program}{w:World}{H H':Hp}{h h':Heap}{a C dx:Addr}{fs fs':List (Str×V)}
theorem wu (hok:HOk P w H h)(e:H a=some (.ins C dx fs)):∃ mA,ObjM h a dx C mA/\(∀ f,vd (fs.lookup f) (mA f))/\PySem.Within mA (fs.map (·.1))/\fs.length<=1000/\H dx=some (.own a):=by
 obtain⟨d,z,ne,ob,mA,n,r,q⟩:=(show qP P w H h a (.ins C dx fs) from hok a _ e)
 exact⟨mA,⟨ob,n,ne⟩,r,q,z,d⟩
end
structure Cls (K:W.Frag)(C:Addr):Prop where
 pg:W.plainGet K C Str.empty=true
 hd:W.hasDictIn K C=true
 po:W.plainOver K C=true
 sa:W.findIn K (.ref C) "__setattr__" = some (some (.builtin "object.__setattr__"))
theorem Cls.get {K:W.Frag}{C:Addr}(c:Cls K C)(f:Str):W.plainGet K C f=true:=c.pg
def qM (K:W.Frag)(C:Addr)(f:Str):Prop:=W.findIn K (.ref C) f=some none
theorem qM.taker {K:W.Frag}{C:Addr}{f:Str}(n:qM K C f):W.takerIn K C f=some none:=by
 unfold W.takerIn;rw[show W.findIn K (.ref C) f=some none from n];rfl
structure Meth (K:W.Frag)(C:Addr)(m:Str)(f:Addr):Prop where
 at_:W.findIn K (.ref C) m=some (some (.ref f))
 fn:W.isFn K (.ref f)=true
 kp:W.keepIn K (.ref f)=true
section
variable {X:Cx}{pins:List (Addr×Obj)}{σ:St}{H:Hp}{s:Shared}{a C dx:Addr}{fs:List (Str×V)}{f:Str}{v:V}{A:Around}{E:Value->Shared->Prop}
theorem ap {b:Bool}{Q:Value->Shared->Prop}(I:Inv X pins σ H s)(e:H a=some (.ins C dx fs))(c:Cls X.K C)(n:qM X.K C f)(l:fs.lookup f=some v)
  (h:∀ u s',Inv X pins σ H s'->YA v u->Q u s'):wpAny (model X.prog X.w) A (getAttr (.ref a) f b) Q E s:=by
 obtain⟨mA,O,r,_,_,_⟩:=wu I.hok e;obtain⟨u,hu,ru⟩:=vd.some_of (v:=v) (o:=mA f) (by rw[←l];exact r f);exact lV I.kIn O (c.get f) c.hd n hu (du ru) (h u _ (I.tok _) ru)
theorem KF {m:Str}{g:Addr}{pl:Sem Bool}{Q:Value×List Value->Shared->Prop}(I:Inv X pins σ H s)(e:H a=some (.ins C dx fs))(c:Cls X.K C)(k:Meth X.K C m g)(l:fs.lookup m=none)
  (h:Q (.ref g,[.ref a]) s):wpAny (model X.prog X.w) A (getMethod (.ref a) m pl) Q E s:=by
 obtain⟨mA,O,r,_,_,_⟩:=wu I.hok e;have hn:mA m=none:=vd.none_of (by rw[←l];exact r m);exact gZ I.kIn O (c.get m) k.at_ k.fn hn h
theorem XW {y:V}{u:Value}{Q:Unit->Shared->Prop}(I:Inv X pins σ H s)(e:H a=some (.ins C dx fs))(c:Cls X.K C)(n:qM X.K C f)(hl:fs.length<1000)(ry:YA y u)
  (h:∀ s',Inv X pins σ (upd H a (.ins C dx (Z8 f y fs))) s'->Q () s'):wpAny (model X.prog X.w) A (setAttr (.ref a) f u) Q E s:=by
 obtain⟨mA,O,r,wi,_,ho⟩:=wu I.hok e;have hz:(fs.map (·.1)).length<=sizeLine:=by rw[yf,sizeLine_eq];omega
 refine ma I.kIn O c.sa c.po n.taker c.hd wi hz fun h' O' sb=>h _ ?_;have hd:∃ o,h'.get? dx=some o:=let ⟨o,_,_,e',_⟩:=O'.ns;⟨o,e'⟩
 refine I.write (x:=a) (e:=dx) (by rw[e];exact True.intro) (.inr ho) (fun b q hb z=>(sb.2 b hb).trans z) hd ?_;refine⟨by rw[yA O.ne];exact ho,?_,O.ne,O'.obj,_,O'.ns,fun g=>?_,fun g hg=>?_⟩
 ·have:=kM f y fs;omega
 ·show vd ((Z8 f y fs).lookup g) (if g=f then some u else mA g);rw[kO];by_cases q:g=f
  ·rw[ye q,ye q];exact ry
  ·rw[yd q,yd q];exact r g
 ·by_cases q:g=f
  ·rw[q];exact(kj f y fs).1
  ·refine(kj f y fs).2 g (wi g fun z=>hg ?_);show(if g=f then some u else mA g)=none;rw[yd q];exact z
theorem Inv.made (I:Inv X pins σ H s):Inv X pins σ (upd (upd H s.heap.objs.size (.own (s.heap.objs.size+1))) (s.heap.objs.size+1) (.ins C s.heap.objs.size []))
  {s with heap:=(s.heap.push W.emptyDict).push (W.instObj C s.heap.objs.size)}:=by
 have e1:(s.heap.push W.emptyDict).get? s.heap.objs.size=some W.emptyDict:=yu s.heap rfl;have e2:((s.heap.push W.emptyDict).push (W.instObj C s.heap.objs.size)).get? (s.heap.objs.size+1)=some (W.instObj C s.heap.objs.size):=by
  have:=yu (s.heap.push W.emptyDict) (o:=W.instObj C s.heap.objs.size) rfl
  rwa [Heap.size_push] at this
 have e3:(s.heap.push W.emptyDict).Ns s.heap.objs.size (fun _=>none):=⟨W.emptyDict,#[],_,e1,rfl,(fun e he=>absurd he (by simp)),fun _=>rfl⟩
 have I1:=I.laid (a:=s.heap.objs.size) (o:=.own (s.heap.objs.size+1)) (h':=s.heap.push W.emptyDict) (t':=s.toks) (fun b u q=>yk _ q) (yo _) ⟨_,e1⟩;refine I1.laid (a:=s.heap.objs.size+1) (o:=.ins C s.heap.objs.size []) (t':=s.toks) (fun b u q=>yk _ q) (Nat.le_of_eq (Heap.size_push _ _)) ?_;have ne:s.heap.objs.size≠s.heap.objs.size+1:=yQ (Nat.lt_succ_self _);refine⟨by rw[yA ne,yN],qU _,ne,e2,fun _=>none,(Heap.Ns1.of_empty e3).at fun o q=>yk _ q,fun _=>True.intro,fun y hy=>absurd rfl hy⟩
theorem mG {prog:Program}{w:World}{env:Env}{e:Expr}{f:Str}{pos:Pos}{s:Shared}{Q:Value->Shared->Prop}(hb:attributeBase e f env (eval e env)=eval e env)
  (h:wpAny (model prog w) A (eval e env) (fun o s₁=>wpAny (model prog w) A (getAttr o f true) Q E s₁) E s):wpAny (model prog w) A (eval (.Attribute e f pos) env) Q E s:=
 Attribute_any_ h (by rw[arm_eval_Attribute,hb])
end
def tX (K:W.Frag)(ta:TE)(f:Str):TE:=fun σ H Q=>ta σ H fun x H1=>∃ a C dx fs v,x=.ref a/\H1 a=some (.ins C dx fs)/\Cls K C/\qM K C f/\fs.lookup f=some v/\Q v H1
def Ad (K:W.Frag)(ta tv:TE)(f:Str):TS:=fun D σ H=>tv σ H fun y H1=>ta σ H1 fun x H2=>∃ a C dx fs,x=.ref a/\H2 a=some (.ins C dx fs)/\Cls K C/\qM K C f/\fs.length<1000/\
 D.nx σ (upd H2 a (.ins C dx (Z8 f y fs)))
section
variable {X:Cx}{o e value:Expr}{f:Str}{pos pos' tpos:Pos}{ta tv:TE}
theorem XJ (he:PE X e ta)(hb:attributeBase e f X.env (eval e X.env)=eval e X.env):PE X (.Attribute e f pos) (tX X.K ta f):=by
 intro pins s σ H Q I h;refine mG hb (thn (he pins s σ H _ I h) fun u s1 ⟨x,H1,I1,rx,a,C,dx,fs,v,ex,ea,c,n,l,q⟩=>?_);subst ex;obtain rfl:u=Value.ref a:=rx;exact ap I1 ea c n l fun u' s2 I2 ru=>⟨v,H1,I2,ru,q⟩
theorem n9 (ha:PE X o ta)(hv:PE X value tv)(hs:swapsWith value (some (.Attribute o f pos')) pos.line X.env=pure false):PS X (.Assign [.Attribute o f pos'] value pos) (Ad X.K ta tv f):=by
 intro pins s σ H D I h;refine plainObj_wpAny_Assign_Attribute (thn (hv pins s σ H _ I h) fun u s1 ⟨y,H1,I1,ry,q⟩=>thn (ha pins s1 σ H1 _ I1 q) fun ov s2 ⟨x,H2,I2,rx,a,C,dx,fs,ex,ea,c,n,l,q2⟩=>?_) hs;subst ex;obtain rfl:ov=Value.ref a:=rx;exact XW I2 ea c n l ry fun s3 I3=>⟨σ,_,I3,q2⟩
end
section
variable {X:Cx}{pins:List (Addr×Obj)}{σ:St}{H:Hp}{s:Shared}{A:Around}{E:Value->Shared->Prop}{Q:Value->Shared->Prop}{c:Value}{b:Bool}
end
structure Room (k:Nat)(A:Around):Prop where
 hd:A.handled=none
 dp:A.depth+3*k+5<recursionLimit
 un:A.units+16*k+200<cLine
theorem Room.mono {j k:Nat}{A:Around}(r:Room k A)(h:j<=k):Room j A:=⟨r.hd,by have:=r.dp;omega,by have:=r.un;omega⟩
theorem Room.deeper {k:Nat}{A:Around}(r:Room (k+1) A)(env:Env):Room k (A.deeper env):=
 ⟨r.hd,by have:=r.dp;show A.depth+1+3*k+5<_;omega,by have:=r.un;show A.units+3+16*k+200<_;omega⟩
theorem xY {A:Around}{C:Addr}{us:List Value}{kw:List (Str×Value)}:(A.under (.builtin "type.__call__" ⟨.ref C::us,kw⟩)).depth=A.depth+1:=by
 first|rfl|simp[Around.under,Code.weight,Code.isCreation,Code.isGuard,Code.isCaller,Code.frames,Code.isFrame,guardIds]
theorem aN {A:Around}{C:Addr}{us:List Value}{kw:List (Str×Value)}:(A.under (.builtin "type.__call__" ⟨.ref C::us,kw⟩)).units=A.units+1:=by
 first|rfl|simp[Around.under,Code.cUnits,Code.frames,Code.isFrame]
theorem Room.make {k:Nat}{A:Around}(r:Room (k+1) A)(C:Addr)(us:List Value)(kw:List (Str×Value)):Room k (A.under (.builtin "type.__call__" ⟨.ref C::us,kw⟩)):=
 ⟨r.hd,by have:=r.dp;rw[xY];omega,by have:=r.un;rw[aN];omega⟩
theorem Room.depth {k:Nat}{A:Around}(r:Room k A):A.depth<recursionLimit:=by have:=r.dp;omega
theorem Room.units {k:Nat}{A:Around}(r:Room k A):A.units+64<cLine:=by have:=r.un;omega
def sx:TA:=fun _ H Q=>Q [] H
def sW (ta:TE)(tr:TA):TA:=fun σ H Q=>ta σ H fun x H1=>tr σ H1 fun xs H2=>Q (x::xs) H2
section
variable {X:Cx}{e:Expr}{es:List Expr}{te:TE}{t:TA}{pos:Pos}
theorem uf:PA X [] sx:=fun _ _ _ _ H Q I h=>Calls.spliced_nil ⟨[],H,I,.nil,h⟩
theorem vP (ha:PE X e te)(hr:PA X es t)(hs:starEach (e::es) X.env=(false,eval e X.env)::starEach es X.env:=by rfl):PA X (e::es) (sW te t):=by
 intro pos pins s σ H Q I h;rw[hs];show wpAny _ _ (spliced ((false,eval e X.env)::backTo pos (starEach es X.env))) _ _ s;refine Calls.spliced_cons (thn (ha pins s σ H _ I h) fun u s1 ⟨x,H1,I1,r1,q1⟩=>?_);exact thn (hr pos pins s1 σ H1 _ I1 q1) fun us s2 ⟨xs,H2,I2,r2,q2⟩=>⟨x::xs,H2,I2,.cons r1 r2,q2⟩
def Ah (t:TA):TE:=fun σ H Q=>t σ H fun xs H1=>xs.length<=sizeLine/\∀ p,H1 p=none->Q (.ref p) (upd H1 p (.tup xs))
def Ax (t:TA):TE:=fun σ H Q=>t σ H fun xs H1=>xs.length<=sizeLine/\∀ p,H1 p=none->Q (.ref p) (upd H1 p (.lst xs))
theorem aM {x1}(h:PA X es t):PE X (.Tuple es x1 pos) (Ah t):=by
 intro pins s σ H Q I hq;refine wpAny_Tuple_spliced (thn (h pos pins s σ H _ I hq) fun us s1 ⟨xs,H1,I1,r,z,q⟩=>⟨by rw[←r.length];exact z,?_⟩);have hf:H1 s1.heap.objs.size=none:=I1.hok.fresh (yo _);refine⟨.ref s1.heap.objs.size,upd H1 s1.heap.objs.size (.tup xs),I1.laid (t':=s1.toks) (fun b u e=>yk _ e) (yo _) ?_,rfl,q _ hf⟩;exact⟨z,us,r,⟨_,yu _ rfl,rfl,_,rfl⟩⟩
theorem oM (h:PA X es t):PE X (.List es pos) (Ax t):=by
 intro pins s σ H Q I hq;refine wpAny_List_spliced (thn (h pos pins s σ H _ I hq) fun us s1 ⟨xs,H1,I1,r,z,q⟩=>⟨by rw[←r.length];exact z,?_⟩);have hf:H1 s1.heap.objs.size=none:=I1.hok.fresh (yo _);refine⟨.ref s1.heap.objs.size,upd H1 s1.heap.objs.size (.lst xs),I1.laid (t':=s1.toks) (fun b u e=>yk _ e) (yo _) ?_,rfl,q _ hf⟩;exact⟨z,us,0,r,yu _ rfl⟩
end
abbrev Sp:=List V->Hp->VK->XK->Prop
abbrev CXT:=List Env->Hp->Shared->XK->Value->Shared->Prop
structure Env0 (P:Program)(w:World)(K:W.Frag)(mg:Str->Option Value)(base:Heap)(A:Around)(outer:List Env)(s:Shared)(H:Hp):Prop where
 frames:A.frames=some outer
 mod:Mod K mg base
 bs:∀ b o,base.get? b=some o->s.heap.get? b=some o/\H b=none
 bsz:base.objs.size<=s.heap.objs.size
 funs:s.heap.FunFrames base outer
 frf:∀ b∈frs outer,H b=none
 hok:HOk P w H s.heap
 bare:AllBare s.gens
def CE (outer:List Env)(P:Program)(w:World)(H:Hp)(s:Shared)(Q:VK)(u:Value)(s':Shared):Prop:=
 ∃ v H',s'.os=s.os/\AllBare s'.gens/\Un (frs outer) [] H H' s.heap s'.heap/\HOk P w H' s'.heap/\YA v u/\Q v H'
def CR (CX:CXT)(outer:List Env)(P:Program)(w:World)(H:Hp)(s:Shared)(Q:VK)(E:XK)(r:Result)(s':Shared):Prop:=
 match r with
 |.ok (.ret u)=>CE outer P w H s Q u s'
 |.ok _=>False
 |.error e=>CX outer H s E e s'
structure FnOk (P:Program)(w:World)(K:W.Frag)(mg:Str->Option Value)(base:Heap)(CX:CXT)(k:Nat)(f:Addr)(fd:FuncData)(ps:List Str)(sp:Sp):Prop where
 len:∀ vs H Q E,sp vs H Q E->vs.length=ps.length
 run:∀ (A:Around) (outer:List Env) (s:Shared) (H:Hp) (args:Args) (us:List Value) (vs:List V) (Q:VK) (E:XK),Room k A->Env0 P w K mg base A outer s H->BindsTo s fd args (ps.zip us)->YN vs us->sp vs H Q E->
  codeAny (model P w) A (.call (.ref f) args) (CR CX outer P w H s Q E) s
theorem Env0.make {P:Program}{w:World}{K:W.Frag}{mg:Str->Option Value}{base:Heap}{A:Around}{outer:List Env}{s:Shared}{H:Hp}(e:Env0 P w K mg base A outer s H)(C:Addr)(us:List Value)(kw:List (Str×Value)) :
  Env0 P w K mg base (A.under (.builtin "type.__call__" ⟨.ref C::us,kw⟩)) outer s H:=⟨by first|exact e.frames|(simpa [Around.under,Code.envs,Code.isFrame,pushEnvs] using e.frames),e.mod,e.bs,e.bsz,e.funs,e.frf,e.hok,e.bare⟩
section
variable {X:Cx}{pins:List (Addr×Obj)}{σ:St}{H:Hp}{s s':Shared}
theorem Inv.env0 (I:Inv X pins σ H s):Env0 X.prog X.w X.K X.mg X.base X.A X.stack s H:=
 ⟨I.ok.frames,I.ok.mod,I.bs,Ye I.ok.bsz I.sz,I.stack,I.stkFree,I.hok,I.bare⟩
theorem Inv.after {Q:VK}{u:Value}(I:Inv X pins σ H s)(h:CE X.stack X.prog X.w H s Q u s'):EP X pins σ Q u s':=by
 obtain⟨v,H',os,bare,un,hok,r,q⟩:=h;obtain⟨hh,g,d,t,os'⟩:=s';obtain rfl:os'=s.os:=os;exact⟨v,H',I.call (h':=hh) (g':=g) (d':=d) (t':=t) (ch:=[]) un hok bare (fun b z=>absurd z (by simp)),r,q⟩
end
def nB (sp:Sp)(dvs:List V)(E:XK)(t:TA):TE:=fun σ H Q=>t σ H fun vs H1=>sp (vs++dvs) H1 Q E
def ny (C:Addr)(m:Str)(sp:Sp)(dvs:List V)(E:XK)(ta:TE)(t:TA):TE:=fun σ H Q=>ta σ H fun x H1=>∃ a dx fs,x=.ref a/\H1 a=some (.ins C dx fs)/\fs.lookup m=none/\
 t σ H1 fun vs H2=>sp (x::(vs++dvs)) H2 Q E
def sE (C:Addr)(sp:Sp)(dvs:List V)(E:XK)(t:TA):TE:=fun σ H Q=>t σ H fun vs H1=>∀ x dx,H1 x=none->H1 dx=none->dx≠x->
 sp (.ref x::(vs++dvs)) (upd (upd H1 dx (.own x)) x (.ins C dx [])) (fun v H2=>v=.non/\Q (.ref x) H2) E
def zo (K:W.Frag)(fd:FuncData)(ps:List Str)(ds:List Value):Prop:=
 ∀ (s:Shared) (us:List Value),K.In s.heap->(us++ds).length=ps.length->BindsTo s fd ⟨us,[]⟩ (ps.zip (us++ds))
theorem zo.all {K:W.Frag}{fd:FuncData}{ps:List Str}(h:∀ us:List Value,us.length=ps.length->bindArgs fd ⟨us,[]⟩=pure (ps.zip us)):zo K fd ps []:=fun s us _ hl=>by
 rw[y9] at hl ⊢;exact .of_eq (h us hl)
def Vd (CX:CXT)(X:Cx)(E:XK):Prop:=∀ (pins:List (Addr×Obj)) (σ:St) (H:Hp) (s:Shared) (e:Value) (s':Shared),Inv X pins σ H s->CX X.stack H s E e s'->X.xe e s'
section
variable {X:Cx}{CX:CXT}{k:Nat}{f C:Addr}{fd:FuncData}{ps:List Str}{sp:Sp}{dvs:List V}{ds:List Value}{E:XK}{x m:Str}{p pos apos:Pos}{e o:Expr}{es:List Expr}{ta:TE}{t:TA}
theorem al {pins:List (Addr×Obj)}{σ:St}{H:Hp}{s:Shared}{Q:VK}{us:List Value}{vs:List V}(F:FnOk X.prog X.w X.K X.mg X.base CX k f fd ps sp)(hr:Room k X.A)(hb:zo X.K fd ps ds)(hd:YN dvs ds)(hx:Vd CX X E)
  (I:Inv X pins σ H s) (r:YN vs us) (h:sp (vs++dvs) H Q E):wpAny (model X.prog X.w) X.A (call (.ref f) us) (EP X pins σ Q) X.xe s:=by
 have r2:YN (vs++dvs) (us++ds):=r.append hd;have hl:(us++ds).length=ps.length:=by rw[←r2.length];exact F.len _ _ _ _ h
 refine wpAny_call (codeAny_mono (F.run X.A X.stack s H ⟨us,[]⟩ (us++ds) (vs++dvs) Q E hr I.env0 (hb s us I.kIn hl) r2 h) fun r s' hq=>?_);cases r with
 |error e=>exact hx pins σ H s e s' I hq
 |ok fl=>
  cases fl with
  |ret u=>exact I.after hq
  |next=>exact False.elim hq
  |brk=>exact False.elim hq
  |cont=>exact False.elim hq
theorem lA (F:FnOk X.prog X.w X.K X.mg X.base CX k f fd ps sp)(hr:Room k X.A)(hg:Gl X x)(hm:X.mg x=some (.ref f))(hk:W.keepIn X.K (.ref f)=true)(hb:zo X.K fd ps ds)(hd:YN dvs ds)(hx:Vd CX X E)
  (ha:PA X (e::es) t) (hdb:(x==("__debug__" : Str))=false:=by decide) (he:starEach (e::es) X.env=(false,eval e X.env)::starEach es X.env:=by rfl) (hpl:(backTo pos (starEach es X.env)).any (·.1)=false:=by rfl) :
  PE X (.Call (.Name x p) (e::es) [] pos) (nB sp dvs E t):=by
 intro pins s σ H Q I h;refine wpAny_Call_Name_kw (Wj I hg hm ?_ hdb);refine W.callWith_K (h₀:=X.base) I.ok.mod.kin hk (thn (ha pos pins s σ H _ I h) fun us s1 ⟨vs,H1,I1,r,q⟩=>⟨I1.kIn,?_⟩) he hpl;exact al F hr hb hd hx I1 r q
theorem Wc {pl:Sem Bool}(he:PE X o ta)(c:Cls X.K C)(hm:Meth X.K C m f)(F:FnOk X.prog X.w X.K X.mg X.base CX k f fd ps sp)(hr:Room k X.A)(hb:zo X.K fd ps ds)(hd:YN dvs ds)(hx:Vd CX X E)(ha:PA X (e::es) t)
  (hst:starEach (e::es) X.env=(false,eval e X.env)::starEach es X.env:=by rfl) (hpl:(backTo pos (starEach es X.env)).any (·.1)=false:=by rfl)
  (ht:eval (.Call (.Attribute o m apos) (e::es) [] pos) X.env=(do
   let ov ←eval o X.env
   standAt apos.atName
   let (f,first) ←holding [ov] (getMethod ov m pl)
   callWith pos f first (backTo pos (starEach (e::es) X.env)) (backToKw pos (keywordEach [] X.env))):=by rfl) :
  PE X (.Call (.Attribute o m apos) (e::es) [] pos) (ny C m sp dvs E ta t):=by
 intro pins s σ H Q I h;refine W.methodCall_KW (pl:=pl) (thn (he pins s σ H _ I h) fun u s1 ⟨x,H1,I1,rx,a,dx,fs,ex,ea,l,q⟩=>?_) ht;subst ex;obtain rfl:u=Value.ref a:=rx;refine KF I1 ea c hm l ?_;refine W.callWith_K (first:=[.ref a]) (h₀:=X.base) I.ok.mod.kin hm.kp (thn (ha pos pins s1 σ H1 _ I1 q) fun us s2 ⟨vs,H2,I2,r,q2⟩=>⟨I2.kIn,?_⟩) hst hpl;exact al (us:=.ref a::us) (vs:=.ref a::vs) F hr hb hd hx I2 (.cons rfl r) q2
theorem xD {pl:Sem Bool}(he:PE X o ta)(c:Cls X.K C)(hm:Meth X.K C m f)(F:FnOk X.prog X.w X.K X.mg X.base CX k f fd ps sp)(hr:Room k X.A)(hb:zo X.K fd ps ds)(hd:YN dvs ds)(hx:Vd CX X E)
  (ht:eval (.Call (.Attribute o m apos) [] [] pos) X.env=(do
   let ov ←eval o X.env
   standAt apos.atName
   let (f,first) ←holding [ov] (getMethod ov m pl)
   callWith pos f first (backTo pos (starEach [] X.env)) (backToKw pos (keywordEach [] X.env))):=by rfl) :
  PE X (.Call (.Attribute o m apos) [] [] pos) (ny C m sp dvs E ta sx):=by
 intro pins s σ H Q I h;refine W.methodCall_KW (pl:=pl) (thn (he pins s σ H _ I h) fun u s1 ⟨x,H1,I1,rx,a,dx,fs,ex,ea,l,q⟩=>?_) ht;subst ex;obtain rfl:u=Value.ref a:=rx;refine KF I1 ea c hm l ?_;exact W.callWith_K0 (first:=[.ref a]) I1.kIn hm.kp (al (us:=[.ref a]) (vs:=[.ref a]) F hr hb hd hx I1 (.cons rfl .nil) q)
structure Mk (K:W.Frag)(C f:Addr):Prop where
 makes:W.makesIn K C=true
 init:W.findIn K (.ref C) "__init__" = some (some (.ref f))
 fn:W.isFn K (.ref f)=true
 kp:W.keepIn K (.ref C)=true
theorem eg {pins:List (Addr×Obj)}{σ:St}{H:Hp}{s:Shared}{Q:VK}{us:List Value}{vs:List V}(M:Mk X.K C f)(F:FnOk X.prog X.w X.K X.mg X.base CX k f fd ps sp)(hr:Room (k+1) X.A)(hb:zo X.K fd ps ds)(hd:YN dvs ds)
  (hx:Vd CX X E) (I:Inv X pins σ H s) (r:YN vs us)
  (h:∀ x dx,H x=none->H dx=none->dx≠x->sp (.ref x::(vs++dvs)) (upd (upd H dx (.own x)) x (.ins C dx [])) (fun v H2=>v=.non/\Q (.ref x) H2) E) :
  wpAny (model X.prog X.w) X.A (call (.ref C) us) (EP X pins σ Q) X.xe s:=by
 have hq:=h (s.heap.objs.size+1) s.heap.objs.size (I.hok.fresh (Nat.le_succ _)) (I.hok.fresh (yo _)) (yQ (Nat.lt_succ_self _));have I2:=Inv.made (C:=C) I;have r2:YN (V.ref (s.heap.objs.size+1)::(vs++dvs)) (Value.ref (s.heap.objs.size+1)::(us++ds)):=.cons rfl (r.append hd);have hl:(Value.ref (s.heap.objs.size+1)::us++ds).length=ps.length:=by
  have e:=r2.length;rw[F.len _ _ _ _ hq] at e;exact e.symm
 refine wpAny_call (gb (f:=f) I.kIn M.makes M.init (beq_iff_eq.mp M.fn) (codeAny_mono (F.run _ X.stack _ _ ⟨Value.ref (s.heap.objs.size+1)::us,[]⟩ (Value.ref (s.heap.objs.size+1)::(us++ds)) _ _ E (hr.make C us [])
  (I2.env0.make C us []) (hb _ (Value.ref (s.heap.objs.size+1)::us) I2.kIn hl) r2 hq) fun r s' hq'=>?_))
 cases r with
 |error e=>exact hx pins σ _ _ e s' I2 hq'
 |ok fl=>
  cases fl with
  |ret u=>
   obtain⟨v,H',I3,rv,ev,q3⟩:=I2.after hq';subst ev;exact⟨rv,⟨V.ref (s.heap.objs.size+1),H',I3,rfl,q3⟩⟩
  |next=>exact False.elim hq'
  |brk=>exact False.elim hq'
  |cont=>exact False.elim hq'
theorem cf (M:Mk X.K C f)(F:FnOk X.prog X.w X.K X.mg X.base CX k f fd ps sp)(hr:Room (k+1) X.A)(hg:Gl X x)(hm:X.mg x=some (.ref C))(hb:zo X.K fd ps ds)(hd:YN dvs ds)(hx:Vd CX X E)
  (ha:PA X (e::es) t) (hdb:(x==("__debug__" : Str))=false:=by decide) (he:starEach (e::es) X.env=(false,eval e X.env)::starEach es X.env:=by rfl) (hpl:(backTo pos (starEach es X.env)).any (·.1)=false:=by rfl) :
  PE X (.Call (.Name x p) (e::es) [] pos) (sE C sp dvs E t):=by
 intro pins s σ H Q I h;refine wpAny_Call_Name_kw (Wj I hg hm ?_ hdb);refine W.callWith_K (h₀:=X.base) I.ok.mod.kin M.kp (thn (ha pos pins s σ H _ I h) fun us s1 ⟨vs,H1,I1,r,q⟩=>⟨I1.kIn,?_⟩) he hpl;exact eg M F hr hb hd hx I1 r q
end
section
variable {X:Cx}{CX:CXT}{k:Nat}{f C:Addr}{fd:FuncData}{ps ks:List Str}{sp:Sp}{E:XK}{x m:Str}{p pos apos kpos:Pos}{e o:Expr}{es:List Expr}{kws:List Keyword}{te ta:TE}{t tk:TA}{nm:Option Str}
variable {g:List Value->List Value->List Value}{gV:List V->List V->List V}
end
structure FnScope (N P:List Str)(sc:Scope):Prop where
 kind:sc.kind=.function
 co:sc.isCoroutine=false
 gen:sc.isGenerator=false
 nd:N.Nodup
 pre:N.take P.length=P
 par:∀ x∈P,sc.names.lookup x=some .local∨sc.names.lookup x=some .cell
 nofree:∀ y∈sc.names,y.2≠.free
theorem qE {N P:List Str}{sc:Scope}(kind:sc.kind=.function:=by rfl)(co:sc.isCoroutine=false:=by rfl)(gen:sc.isGenerator=false:=by rfl)(nd:N.Nodup:=by decide +kernel)(pre:N.take P.length=P:=by rfl)(par:∀ x∈P,sc.names.lookup x=some .local∨sc.names.lookup x=some .cell:=by decide +kernel)(nofree:∀ y∈sc.names,y.2≠.free:=by decide +kernel):FnScope N P sc:=⟨kind,co,gen,nd,pre,par,nofree⟩
theorem Up {kindOf:Str->Option NameKind}{x:Str}:∀ {binds:List (Str×Value)} {m:Str->Option Value},(∀ v,(x,v)∉binds)->bindL kindOf binds m x=m x
 |[],_,_=>rfl
 | (n,v)::r,m,h=>by
  unfold bindL;rw[Up fun w hw=>h w (yc _ hw)];split
  ·have:x≠n:=by rintro rfl;exact h v yp
   simp[this]
  ·rfl
theorem UO {kindOf:Str->Option NameKind}{x:Str}:∀ {binds:List (Str×Value)} {m:Str->Option Value},(∀ v,(x,v)∉binds)->bindC kindOf binds m x=m x
 |[],_,_=>rfl
 | (n,v)::r,m,h=>by
  unfold bindC;rw[UO fun w hw=>h w (yc _ hw)];split
  ·rfl
  ·have:x≠n:=by rintro rfl;exact h v yp
   simp[this]
theorem Us {kindOf:Str->Option NameKind}{x:Str}{v:Value}:∀ {P:List Str} {vs:List Value} {i:Nat} {m:Str->Option Value},P.Nodup->P[i]?=some x->vs[i]?=some v->kindOf x=some .local->
  bindL kindOf (P.zip vs) m x=some v
 |[],_,_,_,_,h,_,_=>by simp at h
 |_::_,[],_,_,_,_,h,_=>by simp at h
 |p::P,w::vs,0,m,nd,h1,h2,hk=>by
  simp at h1 h2;subst h1;subst h2;show bindL kindOf ((p,w)::P.zip vs) m p=_;unfold bindL;rw[Up fun v hv=>(Yc.mp nd).1 (jU hv).1,ye hk];simp
 |p::P,w::vs,i+1,m,nd,h1,h2,hk=>by
  show bindL kindOf ((p,w)::P.zip vs) m x=_;unfold bindL;exact Us (i:=i) (Yc.mp nd).2 (by simpa using h1) (by simpa using h2) hk
theorem UF {kindOf:Str->Option NameKind}{x:Str}{v:Value}:∀ {P:List Str} {vs:List Value} {i:Nat} {m:Str->Option Value},P.Nodup->P[i]?=some x->vs[i]?=some v->kindOf x≠some .local->
  bindC kindOf (P.zip vs) m x=some v
 |[],_,_,_,_,h,_,_=>by simp at h
 |_::_,[],_,_,_,_,h,_=>by simp at h
 |p::P,w::vs,0,m,nd,h1,h2,hk=>by
  simp at h1 h2;subst h1;subst h2;show bindC kindOf ((p,w)::P.zip vs) m p=_;unfold bindC;rw[UO fun v hv=>(Yc.mp nd).1 (jU hv).1,yd hk];simp
 |p::P,w::vs,i+1,m,nd,h1,h2,hk=>by
  show bindC kindOf ((p,w)::P.zip vs) m x=_;unfold bindC;exact UF (i:=i) (Yc.mp nd).2 (by simpa using h1) (by simpa using h2) hk
def start (N:List Str)(vs:List V):St:=vs.map some++List.replicate (N.length - vs.length) none
def uv (CX:CXT)(P:Program)(w:World)(K:W.Frag)(mg:Str->Option Value)(base:Heap)(N:List Str)(qual:Str)(scope:Scope)(f:Addr)(cd:Value)(A:Around)(outer:List Env)(s:Shared)(H:Hp)(E:XK):Cx where
 prog:=P
 w:=w
 K:=K
 mg:=mg
 base:=base
 A:=A.deeper (envOfC qual scope s.heap.objs.size f cd)
 N:=N
 s₀:=s
 H₀:=H
 env:=envOfC qual scope s.heap.objs.size f cd
 outer:=outer
 stack:=envOfC qual scope s.heap.objs.size f cd::outer
 ex:=[]
 calm:=true
 fn:=fun _=>true
 pn:=[]
 xe:=fun e s'=>wpAny (model P w) (A.deeper (envOfC qual scope s.heap.objs.size f cd)) (leaving (envOfC qual scope s.heap.objs.size f cd) e) (fun _ s''=>CX outer H s E e s'') (fun e' s''=>CX outer H s E e' s'') s'
theorem W2 {sc:Scope}{n:Nat}{x:Str}(h:sc.names.lookup x=some .cell):∃ c,(cellsFrom n sc.names []).lookup x=some c:=by
 have q:=W.cellsFrom_some sc.names n [] (.inl h);exact jn.mp q
theorem cp {CX:CXT}{P:Program}{w:World}{K:W.Frag}{mg:Str->Option Value}{base:Heap}{N ps:List Str}{qual:Str}{scope:Scope}{f:Addr}{cd:Value}{A:Around}{outer:List Env}{s s1:Shared}{H:Hp}{E:XK}{us:List Value}{vs:List V}
  (S:FnScope N ps scope) (hd:A.handled=none) (e0:Env0 P w K mg base A outer s H) (hl:vs.length=ps.length) (r:YN vs us)
  (x:InCallC s s.heap.objs.size (bindL (envOfC qual scope s.heap.objs.size f cd).kindOf (ps.zip us) fun _=>none) (cellsFrom (s.heap.objs.size+1) scope.names []) (bindC (envOfC qual scope s.heap.objs.size f cd).kindOf (ps.zip us) fun _=>none) s1) :
  Inv (uv CX P w K mg base N qual scope f cd A outer s H E) [] (start N vs) H s1:=by
 have hpl:ps.length<=N.length:=by have:=congrArg List.length S.pre;rw[y6] at this;omega
 obtain⟨h1,tk,rfl,hk⟩:=x.done;have noA:∀ b:Addr,b∉(uv CX P w K mg base N qual scope f cd A outer s H E).ex:=fun b z=>absurd (show b∈([]:List Addr) from z) (by simp);refine⟨⟨e0.mod,S.kind,rfl,rfl,yo _,fun y z c h1 h2=>?_,fun y hy=>?_,fun y c _ h=>?_,fun _=>hd,Around.frames_deeper e0.frames,.inr ⟨rfl,rfl⟩,fun b z=>absurd z (noA b),e0.bs,e0.bsz,fun b _ _=>noA b,fun b z=>absurd z (noA b),e0.funs,e0.frf⟩,
  rfl,e0.bare,Un.kept hk,⟨_,x.toInCall.ns,fun i y v h1 h2 h3=>?_⟩,fun y c h=>⟨_,x.cell y c h⟩,e0.hok.fresh (yo _),fun y c h=>?_,fun p hp=>absurd (show p∈([]:List (Addr×Obj)) from hp) (by simp),e0.hok.kept hk,?_⟩
 ·exact name_of_addr x.apart (PySem.mem_of_lookup h1) (PySem.mem_of_lookup h2)
 ·have hy:scope.names.lookup y=some .cell∨scope.names.lookup y=some .free:=hy;rcases hy with hy|hy
  ·exact W2 hy
  ·exact absurd rfl (S.nofree _ (PySem.mem_of_lookup hy))
 ·exact Nat.le_of_lt (x.above y c (PySem.mem_of_lookup h))
 ·have hi:i<vs.length:=by
   unfold start at h2;by_cases hi:i<vs.length
   ·exact hi
   ·rw[qa (by simpa using hi)] at h2;rw[Qm] at h2;split at h2 <;> cases h2
  have ha:vs[i]?=some v:=by
   unfold start at h2;rw[qq (by simpa using hi),yl] at h2;cases e:vs[i]? with
   |none=>rw[e] at h2;cases h2
   |some a=>rw[e] at h2;cases h2;rfl
  obtain⟨u,hu,rv⟩:=r.get ha;have hp:ps[i]?=some y:=by
   rw[←S.pre,List.getElem?_take_of_lt (by omega)];exact h1
  have ndP:ps.Nodup:=by rw[←S.pre];exact S.nd.sublist (List.take_sublist _ _)
  refine⟨u,rv,?_⟩;rcases S.par y (yq hp) with k|k
  ·exact .inl ⟨k,Us ndP hp hu k⟩
  ·obtain⟨c,e⟩:=W2 (n:=s.heap.objs.size+1) k;refine .inr ⟨.inl k,c,e,?_⟩;have q:=x.cell y c e;rw[UF ndP hp hu (by show scope.names.lookup y≠_;rw[k];decide)] at q;exact q
 ·exact e0.hok.fresh (Nat.le_of_lt (x.above y c (PySem.mem_of_lookup h)))
 ·unfold start;show _=N.length;rw[Yh,yf,qy];omega
theorem sI {CX:CXT}{P:Program}{w:World}{K:W.Frag}{mg:Str->Option Value}{base:Heap}{k:Nat}{f:Addr}{name qual:Str}{params:Arguments}{body:List Stmt}{scope:Scope}{dV kV doc pm cdv ct oc:Value}{an od:Option Addr}
  {osl:Array (Option Value)} {N ps:List Str} {sp:Sp} (lk:K.lookup f=some ⟨oc,od,.func (W.fnOf name qual params body scope dV kV doc pm an cdv ct),osl⟩) (hcd:W.codeIn K cdv qual=true) (S:FnScope N ps scope)
  (len:∀ vs H Q E,sp vs H Q E->vs.length=ps.length)
  (hbody:∀ (A:Around) (outer:List Env) (s:Shared) (H:Hp) (vs:List V) (Q:VK) (E:XK),Room k (A.deeper (envOfC qual scope s.heap.objs.size f cdv))->sp vs H Q E->
   ∃ t,PSs (uv CX P w K mg base N qual scope f cdv A outer s H E) body t/\t {nx:=fun _ H'=>Q .non H',rt:=Q} (start N vs) H) :
  FnOk P w K mg base CX (k+1) f (W.fnOf name qual params body scope dV kV doc pm an cdv ct) ps sp:=by
 refine⟨len,fun A outer s H args us vs Q E hr e0 hb r hsp=>?_⟩;have hl:=len _ _ _ _ hsp;have KX:K.In s.heap:=e0.mod.kin.keeps fun b o e=>(e0.bs b o e).1;have lim:s.heap.NoLimit:=e0.mod.nolimit.keeps fun b o e=>(e0.bs b o e).1;have hkind:∀ y∈ps.zip us,scope.names.lookup y.1=some .local∨(scope.names.lookup y.1=some .cell/\((cellsFrom (s.heap.objs.size+1) scope.names []).lookup y.1).isSome=true):=fun⟨n,v⟩ hy=>by
  rcases S.par n (jU hy).1 with q|q
  ·exact .inl q
  ·exact .inr ⟨q,W.cellsFrom_some _ _ _ (.inl q)⟩
 refine codeAny_call_function hr.depth (KX _ _ lk) rfl S.co S.gen rfl (W.codeRec_of KX hcd) (hb _ _ _ _ ?_);refine wpAny_newFunctionEnv_cells S.kind hkind fun env he s1 x=>?_;subst he;refine⟨lim.keeps x.toInCall.keep,codeAny_func ?_⟩;obtain⟨t,ht,hq⟩:=hbody A outer s H vs Q E (hr.deeper _) hsp;have I:Inv (uv CX P w K mg base N qual scope f cdv A outer s H E) [] (start N vs) H s1:=cp S hr.hd e0 hl r x;refine YF (ht [] s1 (start N vs) H _ I hq) (fun fl s' hs=>?_) fun e s' hs=>hs;have fin:∀ {σ':St} {H':Hp} {v:V} {u:Value},Inv (uv CX P w K mg base N qual scope f cdv A outer s H E) [] σ' H' s'->YA v u->Q v H'->CE outer P w H s Q u s':=
  fun {σ' H' v u} J rv q=>⟨v,H',J.os,J.bare,J.base,J.hok,rv,q⟩
 cases fl with
 |ret u=>
  obtain⟨v,σ',H',J,rv,q⟩:=hs;exact fin J rv q
 |next=>
  obtain⟨σ',H',J,q⟩:=hs;exact fin (v:=V.non) (u:=Value.none) J rfl q
 |brk=>
  obtain⟨_,_,_,q⟩:=hs;exact False.elim q
 |cont=>
  obtain⟨_,_,_,q⟩:=hs;exact False.elim q
section
variable {X:Cx}{x:Str}{p pos:Pos}{e:Expr}{es:List Expr}{t:TA}{id T:String}{r:List V->Hp->VK->Prop}
def tCB (r:List V->Hp->VK->Prop)(t:TA):TE:=fun σ H Q=>t σ H fun vs H1=>r vs H1 Q
theorem iA (hc:Vk X (.builtin id) r)(hg:Gl X x)(hm:X.mg x=none)(hv:bootBuiltins x=some (.builtin id))(ha:PA X (e::es) t)(hn:x ≠ "__name__" :=by decide)(hdb:(x==("__debug__" : Str))=false:=by decide)
  (he:starEach (e::es) X.env=(false,eval e X.env)::starEach es X.env:=by rfl) (hpl:(backTo pos (starEach es X.env)).any (·.1)=false:=by rfl):PE X (.Call (.Name x p) (e::es) [] pos) (tCB r t):=by
 intro pins s σ H Q I h;refine wpAny_Call_Name_kw (ZG I hg hm hv ?_ hn hdb);exact PyProof.Rows.callWith_builtin1 (thn (ha pos pins s σ H _ I h) fun us s1 ⟨vs,H1,I1,r1,q1⟩=>hc pins s1 σ H1 vs us Q I1 r1 q1) he hpl
theorem dP (hc:Vk X (.type T) r)(hg:Gl X x)(hm:X.mg x=none)(hv:bootBuiltins x=some (.type T))(ha:PA X (e::es) t)(hn:x ≠ "__name__" :=by decide)(hdb:(x==("__debug__" : Str))=false:=by decide)
  (he:starEach (e::es) X.env=(false,eval e X.env)::starEach es X.env:=by rfl) (hpl:(backTo pos (starEach es X.env)).any (·.1)=false:=by rfl):PE X (.Call (.Name x p) (e::es) [] pos) (tCB r t):=by
 intro pins s σ H Q I h;refine wpAny_Call_Name_kw (ZG I hg hm hv ?_ hn hdb);exact PyProof.Rows.callWith_type1 (thn (ha pos pins s σ H _ I h) fun us s1 ⟨vs,H1,I1,r1,q1⟩=>hc pins s1 σ H1 vs us Q I1 r1 q1) he hpl
end
end L2
namespace HT
open PySem PyProof.Rows
section
open PySem.SeqAt
open PySem.AutoSeq1 (wpAny_loadPart')
open PySem.MeetsSeq PySem.MeetsSeq2 PySem.MeetsSeq3
end
section
variable {prog:Program}{w:World}{A:Around}{E:Value->Shared->Prop}{s:Shared}
def sIx (n d:Nat):Option Int->Nat
 |none=>d
 |some v=>if v<0 then (v+(n:Int)).toNat else min v.toNat n
theorem WX (n d:Nat):sIx n d none=d:=rfl
theorem mZ (n d k:Nat):sIx n d (some (k:Int))=min k n:=by
 show(if (k:Int)<0 then ((k:Int)+(n:Int)).toNat else min (k:Int).toNat n)=min k n;rw[yd (by omega),Qe]
theorem lW (v:Int)(n d:Nat):(if v<0 then max (v+(n:Int)) 0 else min v (n:Int))=((sIx n d (some v):Nat):Int):=by
 show(if v<0 then max (v+(n:Int)) 0 else min v (n:Int))=(((if v<0 then (v+(n:Int)).toNat else min v.toNat n):Nat):Int)
 by_cases hv:v<0
 ·simp only[ye hv];omega
 ·simp only[yd hv];omega
end
end HT
namespace L2
open PySem PySem.Spec PyProof.Rows
abbrev TO:=St->Hp->(Option Int->Hp->Prop)->Prop
def PO (X:Cx)(e:Option Expr)(t:TO):Prop:=
 ∀ (pins:List (Addr×Obj)) (s:Shared) (σ:St) (H:Hp) (Q:Option Int->Hp->Prop),Inv X pins σ H s->t σ H Q->
  wpAny (model X.prog X.w) X.A (evalPart e X.env) (fun u s'=>∃ o H',Inv X pins σ H' s'/\IsPart u o/\Q o H') X.xe s
def lH:TO:=fun _ H Q=>Q none H
def sj (t:TE):TO:=fun σ H Q=>t σ H fun x H1=>∃ i,x=.int i/\Q (some i) H1
theorem XI {ns:List Int}:∀ {us:List Value},YN (ns.map V.int) us->IntsAre us ns:=by
 induction ns with
 |nil=>intro us r;rw[QB] at r;cases r;exact .nil
 |cons n ns ih=>
  intro us r;rw[yy] at r;cases r with
  |cons r1 r2=>
   obtain⟨t,e⟩:=r1;subst e;exact .cons n t (ih r2)
section
variable {X:Cx}{e:Expr}{te:TE}{lo hi:Option Expr}{tl th:TO}{pos p2:Pos}
theorem lr:PO X none lH:=by
 intro pins s σ H Q I h;rw[evalPart_none];exact yg ⟨none,H,I,.none,h⟩
theorem mR (h:PE X e te):PO X (some e) (sj te):=by
 intro pins s σ H Q I hw;rw[evalPart_some];refine thn (h pins s σ H _ I hw) fun u s1 ⟨x,H1,I1,r1,q1⟩=>?_;obtain⟨i,rfl,q⟩:=q1;obtain⟨t,rfl⟩:=r1;exact⟨some i,H1,I1,.int i t,q⟩
def SlR (X:Cx)(r:V->Option Int->Option Int->Hp->VK->Prop):Prop:=
 ∀ (pins:List (Addr×Obj)) (s:Shared) (σ:St) (H:Hp) (x:V) (v vl vu:Value) (lo hi:Option Int) (sl:Addr) (Q:VK),Inv X pins σ H s->YA x v->s.heap.IsSliceOf sl vl vu .none->IsPart vl lo->IsPart vu hi->r x lo hi H Q->
  ∃ T id,typeLookup (.type T) "__getitem__" = pure (some (.builtin id))/\s.TypeIs v T/\wpAny (model X.prog X.w) X.A (getItem v (.ref sl)) (EP X pins σ Q) X.xe s
def tSl (r:V->Option Int->Option Int->Hp->VK->Prop)(te:TE)(tl th:TO):TE:=fun σ H Q=>te σ H fun x H1=>tl σ H1 fun l H2=>th σ H2 fun u H3=>r x l u H3 Q
theorem fW {r:V->Option Int->Option Int->Hp->VK->Prop}(hr:SlR X r)(he:PE X e te)(hl:PO X lo tl)(hu:PO X hi th):PE X (.Subscript e (.Slice lo hi none p2) pos) (tSl r te tl th):=by
 intro pins s σ H Q I h;refine Subscript_ (thn (he pins s σ H _ I h) fun v s1 ⟨x,H1,I1,r1,q1⟩=>?_);refine wpAny_Slice (thn (hl pins s1 σ H1 _ I1 q1) fun vl s2 ⟨l,H2,I2,pl,q2⟩=>thn (hu pins s2 σ H2 _ I2 q2) fun vu s3 ⟨u,H3,I3,pu,q3⟩=>?_);rw[evalPart_none];refine yg ?_;have I4:Inv X pins σ H3 {s3 with heap:=s3.heap.push {cls:=.type "slice", data:=.fields #[vl,vu,.none]}}:=I3.kept (t':=s3.toks) fun b ob q=>yk _ q;obtain⟨T,id,hT,ht,hg⟩:=hr pins {s3 with heap:=s3.heap.push {cls:=.type "slice", data:=.fields #[vl,vu,.none]}} σ H3 x v vl vu l u s3.heap.objs.size Q I4 r1 (Heap.IsSliceOf.new ..) pl pu q3;show wpAny (model X.prog X.w) X.A (subscriptTail e (.Slice lo hi none p2) v (.ref s3.heap.objs.size)) (EP X pins σ Q) X.xe {s3 with heap:=s3.heap.push {cls:=.type "slice", data:=.fields #[vl,vu,.none]}};exact tail_any (ops:=[.ref s3.heap.objs.size,v]) ht hT hg (by with_unfolding_all rfl)
def dR (xs:List V)(lo hi:Option Int):List V:=(xs.drop (HT.sIx xs.length 0 lo)).take (HT.sIx xs.length xs.length hi - HT.sIx xs.length 0 lo)
theorem xx (xs:List V)(lo hi:Option Int):(dR xs lo hi).length<=xs.length:=by
 unfold dR;rw[y6,List.length_drop];omega
end
def ixN (n:Nat)(i:Int):Option Nat:=if 0<=i then (if i<n then some i.toNat else none) else if -(n:Int)<=i then some (i+n).toNat else none
def atI {α:Type}(xs:List α)(i:Int):Option α:=(ixN xs.length i).bind fun j=>xs[j]?
theorem aW {n:Nat}{i:Int}{j:Nat}(h:ixN n i=some j):seqIndex? i n=some j/\j<n/\-(n:Int)<=i/\i<n:=by
 unfold ixN at h;by_cases h0:0<=i
 ·rw[ye h0] at h;by_cases h1:i<n
  ·rw[ye h1] at h;have e:i.toNat=j:=Option.some.inj h;exact⟨by rw[seqIndex_of h0 h1,e],by omega,by omega,h1⟩
  ·rw[yd h1] at h;cases h
 ·rw[yd h0] at h;by_cases h1:-(n:Int)<=i
  ·rw[ye h1] at h;have e:(i+n).toNat=j:=Option.some.inj h;exact⟨by rw[seqIndex_neg (by omega) h1,e],by omega,h1,by omega⟩
  ·rw[yd h1] at h;cases h
theorem wL {α:Type}{xs:List α}{i:Int}{v:α}(h:atI xs i=some v):∃ j,seqIndex? i xs.length=some j/\xs[j]?=some v/\j<xs.length/\-(xs.length:Int)<=i/\i<xs.length:=by
 unfold atI at h;cases e:ixN xs.length i with
 |none=>rw[e] at h;cases h
 |some j=>
  rw[e] at h;obtain⟨h1,h2,h3,h4⟩:=aW e;exact⟨j,h1,h,h2,h3,h4⟩
theorem Ki {α:Type}{xs:List α}{j:Nat}{v:α}(h:xs[j]?=some v):atI xs (j:Int)=some v:=by
 have hj:j<xs.length:=(yh.mp h).1;have e:ixN xs.length (j:Int)=some j:=by
  unfold ixN;rw[ye (by omega),ye (by omega)];simp
 unfold atI;rw[e];exact h
def vJ (b:Expr):Prop:=∀ o i,subscripted b false o i=operate [o,i] (getItem o i)
def IxR (X:Cx)(r:R2):Prop:=
 ∀ (value slice:Expr) (pins:List (Addr×Obj)) (s:Shared) (σ:St) (H:Hp) (x y:V) (v u:Value) (Q:VK),Inv X pins σ H s->YA x v->YA y u->r x y H Q->
  subscripted slice false v u=operate [v,u] (getItem v u)->wpAny (model X.prog X.w) X.A (subscriptTail value slice v u) (EP X pins σ Q) X.xe s
def MtR (X:Cx)(id:String)(r:V->List V->Hp->VK->Prop):Prop:=
 ∀ (pins:List (Addr×Obj)) (s:Shared) (σ:St) (H:Hp) (x:V) (xs:List V) (v:Value) (us:List Value) (Q:VK),Inv X pins σ H s->YA x v->YN xs us->r x xs H Q->
  wpAny (model X.prog X.w) X.A (call (.builtin id) (v::us)) (EP X pins σ Q) X.xe s
section
variable {X:Cx}{a b:Expr}{ta tb:TE}{pos:Pos}
theorem tJ {r:R2}(hr:IxR X r)(ha:PE X a ta)(hb:PE X b tb)(hs:vJ b):PE X (.Subscript a b pos) (tOp r ta tb):=by
 intro pins s σ H Q I h;exact Subscript_ (rh ha hb I h fun v u s2 x y H2 I2 rx ry q=>hr a b pins s2 σ H2 x y v u Q I2 rx ry q (hs _ _))
def AA (K:W.Frag):R2:=fun x y H Q=>∃ p xs i v,x=.ref p/\y=.int i/\SqL K H p xs/\atI xs i=some v/\Q v H
def AC (K:W.Frag):R2:=fun x y H Q=>∃ p xs i v,x=.ref p/\y=.int i/\SqT K H p xs/\atI xs i=some v/\Q v H
def Ao:R2:=fun x y H Q=>∃ z i c,x=.str z/\y=.int i/\z.length<=sizeLine/\atI z.cps.toList i=some c/\Q (.str ⟨#[c]⟩) H
theorem bp:IxR X (AA X.K):=by
 intro value slice pins s σ H x y v u Q I rx ry h hs;obtain⟨p,xs,i,z,rfl,rfl,hq,he,q⟩:=h;cases rx;obtain⟨t,rfl⟩:=ry;obtain⟨its,r,pl,hz⟩:=I.list hq;obtain⟨j,h1,h2,h3,h4,h5⟩:=wL he;obtain⟨w,ew,rw'⟩:=r.get h2;have hl:=r.length;have hn:=VU;have fin:EP X pins σ Q w s:=⟨z,H,I,rw',q⟩
 by_cases h0:0<=i
 ·have hj:i.toNat=j:=by
   rw[seqIndex_of h0 h5] at h1;exact Option.some.inj h1
  exact item_listR pl.isList h0 (by omega) (by rw[hj];simpa using ew) fin hs
 ·have hj:(i+(its.toArray.size:Int)).toNat=j:=by
   rw[seqIndex_neg (by omega) h4] at h1;rw[yJ,←hl];exact Option.some.inj h1
  exact subscriptTail_builtinR (x:=w) pl.isList.typeIs slot_list_getitem.lookup
   (wpAny_getItem_list_neg (Q:=fun r s'=>r=w/\EP X pins σ Q r s') pl.isList (by omega) (by rw[yJ] <;> omega) (by omega) (by rw[hj];simpa using ew) ⟨rfl,fin⟩) hs
theorem rR:IxR X (AC X.K):=by
 intro value slice pins s σ H x y v u Q I rx ry h hs;obtain⟨p,xs,i,z,rfl,rfl,hq,he,q⟩:=h;cases rx;obtain⟨t,rfl⟩:=ry;obtain⟨its,r,pl,hz⟩:=I.tuple hq;obtain⟨j,h1,h2,h3,h4,h5⟩:=wL he;obtain⟨w,ew,rw'⟩:=r.get h2;have hl:=r.length;have hn:=VU;have fin:EP X pins σ Q w s:=⟨z,H,I,rw',q⟩
 exact subscriptTail_builtinR (x:=w) pl.typeIs slot_tuple_getitem.lookup
  (getItem_tuple (j:=j) (Q:=fun r s'=>r=w/\EP X pins σ Q r s') pl (by omega) (by omega) (by rw[yJ,←hl];exact h1) (by simpa using ew) ⟨rfl,fin⟩) hs
theorem ox:IxR X Ao:=by
 intro value slice pins s σ H x y v u Q I rx ry h hs;obtain⟨z,i,c,rfl,rfl,hz,he,q⟩:=h;obtain⟨t,rfl⟩:=rx;obtain⟨t',rfl⟩:=ry;obtain⟨j,h1,h2,h3,h4,h5⟩:=wL he;have hl:z.cps.toList.length=z.length:=by simp[Str.length]
 rw[hl] at h1 h4 h5;have hn:=VU;exact tail_any (typeIs_str s z t) slot_str_getitem.lookup (getItem_str (c:=c) (by
  have e1:decide (i < -(2 ^ 63:Int))=false:=yC (by omega);have e2:decide (i ≥ 2 ^ 63)=false:=yC (by omega);rw[e1,e2,Bool.or_false]) (by rw[h1];simpa using h2) ⟨.str ⟨#[c]⟩,H,I.tok _,⟨_,rfl⟩,q⟩) hs
theorem ai (its:List Value)(n j:Nat)(u:Value):Obj.mapSeq (·.setIfInBounds j u) {cls:=.type "list", data:=.seq its.toArray n}={cls:=.type "list", data:=.seq (its.set j u).toArray n}:=by
 simp[Obj.mapSeq]
theorem Inv.lst {pins:List (Addr×Obj)}{σ:St}{H:Hp}{s:Shared}{p:Addr}{xs:List V}(I:Inv X pins σ H s)(h:H p=some (.lst xs)) :
  ∃ (its:List Value) (n:Nat),YN xs its/\s.heap.get? p=some {cls:=.type "list", data:=.seq its.toArray n}/\xs.length<=sizeLine:=by
 obtain⟨z,its,n,r,e⟩:=I.hok p _ h;exact⟨its,n,r,e,z⟩
theorem Inv.lstUpd {pins:List (Addr×Obj)}{σ:St}{H:Hp}{s:Shared}{p:Addr}{xs ys:List V}{its its':List Value}{n n':Nat}{f:Obj->Obj}(I:Inv X pins σ H s)(h:H p=some (.lst xs))
  (ho:s.heap.get? p=some {cls:=.type "list", data:=.seq its.toArray n}) (hf:f {cls:=.type "list", data:=.seq its.toArray n}={cls:=.type "list", data:=.seq its'.toArray n'}) (r:YN ys its') (hz:ys.length<=sizeLine) (t:Nat) :
  Inv X pins σ (upd H p (.lst ys)) {s with heap:=s.heap.update p f,toks:=t}:=by
 have e:(s.heap.update p f).get? p=some {cls:=.type "list", data:=.seq its'.toArray n'}:=by
  rw[Heap.get?_update_self f ho (by rw[hf] <;> rfl),hf]
 refine I.write (x:=p) (e:=p) (by rw[h];trivial) (.inl rfl) (fun b u hb q=>(Heap.get?_update_other _ _ (Ne.symm hb)).trans q) ⟨_,e⟩ ?_;exact⟨hz,its',n',r,e⟩
def sG:V->V->V->Hp->(Hp->Prop)->Prop:=fun o i v H Q=>∃ p xs k j,o=.ref p/\i=.int k/\H p=some (.lst xs)/\ixN xs.length k=some j/\Q (upd H p (.lst (xs.set j v)))
theorem lf:pj X sG:=by
 intro pins s σ H o i v ov iv u Q I ro ri rv h;obtain⟨p,xs,k,j,rfl,rfl,hp,hj,q⟩:=h;cases ro;obtain⟨t,rfl⟩:=ri;obtain⟨its,n,r,ho,hz⟩:=I.lst hp;obtain⟨h1,h2,h3,h4⟩:=aW hj;have hl:=r.length;have hn:=VU;have I':Inv X pins σ (upd H p (.lst (xs.set j v))) {s with heap:=s.heap.update p (Obj.mapSeq (·.setIfInBounds j u))}:=
  I.lstUpd hp ho (ai its n j u) (r.set rv j) (by rw[List.length_set];exact hz) s.toks
 by_cases h0:0<=k
 ·have hk:k.toNat=j:=by
   rw[seqIndex_of h0 h4] at h1;exact Option.some.inj h1
  exact W.ki_setAt ho h0 (by omega) (by rw[yJ,←hl];exact h4) (by rw[hk];exact⟨_,I',q⟩)
 ·have hk:(k+(its.toArray.size:Int)).toNat=j:=by
   rw[seqIndex_neg (by omega) h3] at h1;rw[yJ,←hl];exact Option.some.inj h1
  exact W.ki_setBack ho (by omega) (by rw[yJ,←hl];exact h3) (by omega) (by rw[hk];exact⟨_,I',q⟩)
theorem a8 (i:Int)(n d:Nat):max 0 (min (if i<0 then i+(n:Int) else i) (n:Int))=((HT.sIx n d (some i):Nat):Int):=by
 rw[←HT.lW];by_cases h:i<0
 ·rw[ye h,ye h,Int.max_comm,Int.min_eq_left (Int.add_le_of_le_sub_right (by rw[Int.sub_self];exact yz h))]
 ·rw[yd h,yd h];exact Int.max_eq_right (Int.le_min.mpr ⟨Int.not_lt.mp h,Int.natCast_nonneg n⟩)
theorem Ws (lo hi:Option Int)(n:Nat):(sliceBounds lo hi none n).1=((HT.sIx n 0 lo:Nat):Int)/\(sliceBounds lo hi none n).2.1=((HT.sIx n n hi:Nat):Int)/\(sliceBounds lo hi none n).2.2=1:=by
 refine⟨?_,?_,rfl⟩
 ·cases lo with
  |none=>rfl
  |some i=>exact a8 i n 0
 ·cases hi with
  |none=>rfl
  |some i=>exact a8 i n n
theorem uS (its:List Value)(lo hi:Option Int):slicePick its.toArray lo hi none=((its.drop (HT.sIx its.length 0 lo)).take (HT.sIx its.length its.length hi - HT.sIx its.length 0 lo)).toArray:=by
 obtain⟨h1,h2,h3⟩:=Ws lo hi its.toArray.size;unfold slicePick;rw[h1,h2,h3];simp only[sliceRange_one,pick_run,yJ] <;> rfl
def Az (K:W.Frag):V->Option Int->Option Int->Hp->VK->Prop:=fun x lo hi H Q=>∃ a xs,x=.ref a/\SqL K H a xs/\∀ p,H p=none->Q (.ref p) (upd H p (.lst (dR xs lo hi)))
theorem mC:SlR X (Az X.K):=by
 intro pins s σ H x v vl vu lo hi sl Q I rx hs pl pu h;obtain⟨a,xs,rfl,hx,q⟩:=h;cases rx;obtain⟨its,r,ht,hz⟩:=I.list hx;have hlen:=r.length;refine⟨"list", _,slot_list_getitem.lookup,ht.isList.typeIs,?_⟩;refine wpAny_getItem_list_slice ht.isList hs pl pu .none (by simp) ?_ (by rw[yJ] <;> omega);rw[uS,←hlen];refine⟨.ref s.heap.objs.size,_,I.laid (t':=s.toks) (o:=.lst (dR xs lo hi)) (fun b ob q=>yk _ q) (yo _) ?_,rfl,q _ (I.hok.fresh (yo _))⟩;exact⟨Ye (xx xs lo hi) hz,_,0,(r.drop (HT.sIx xs.length 0 lo)).take (HT.sIx xs.length xs.length hi - HT.sIx xs.length 0 lo),yu _ rfl⟩
theorem ZE:Vk X (.builtin "len") (fun xs H Q=>∃ p ys,xs=[.ref p]/\(SqL X.K H p ys∨SqT X.K H p ys)/\Q (.int ys.length) H):=by
 intro pins s σ H xs us Q I r h;obtain⟨p,ys,rfl,hq,q⟩:=h;obtain⟨u,rfl,rx⟩:=UI r;cases rx;have hn:=VU;rcases hq with hq|hq
 ·obtain⟨its,r',pl,hz⟩:=I.list hq;have hlen:=r'.length;exact Calls.call_len_list pl.isList (by simp only[yJ] <;> omega) ⟨.int ys.length,H,I.tok _,⟨s.toks+1,by rw[yJ,hlen]⟩,q⟩
 ·obtain⟨its,r',pl,hz⟩:=I.tuple hq;have hlen:=r'.length;exact len_tuple pl (by simp only[yJ] <;> omega) ⟨.int ys.length,H,I.tok _,⟨s.toks+1,by rw[yJ,hlen]⟩,q⟩
theorem Wm:Vk X (.builtin "len") (fun xs H Q=>∃ z,xs=[.str z]/\z.length<=sizeLine/\Q (.int z.length) H):=by
 intro pins s σ H xs us Q I r h;obtain⟨z,rfl,hz,q⟩:=h;obtain⟨u,rfl,t,rfl⟩:=UI r;have hn:=VU;exact len_str (by omega) ⟨.int z.length,H,I.tok _,⟨_,rfl⟩,q⟩
theorem wX:Vk X (.type "list") (fun xs H Q=>∃ p ys,xs=[.ref p]/\(SqL X.K H p ys∨SqT X.K H p ys)/\∀ l,H l=none->Q (.ref l) (upd H l (.lst ys))):=by
 intro pins s σ H xs us Q I r h;obtain⟨p,ys,rfl,hq,q⟩:=h;obtain⟨u,rfl,rx⟩:=UI r;cases rx;have fin:∀ (its:List Value),YN ys its->ys.length<=sizeLine->∀ (h':Heap) (c':Nat),(∀ b o',s.heap.get? b=some o'->h'.get? b=some o')->
   h'.get? s.heap.objs.size=some {cls:=.type "list", dict:=none,data:=.seq its.toArray c',slots:=#[]}->EP X pins σ Q (.ref s.heap.objs.size) {s with heap:=h'}:=fun its r' hz h' c' kp e=>
  ⟨.ref s.heap.objs.size,_,I.laid (t':=s.toks) kp (yo _) (show qP X.prog X.w _ h' _ (.lst ys) from ⟨hz,its,c',r',e⟩),rfl,q _ (I.hok.fresh (yo _))⟩
 rcases hq with hq|hq
 ·obtain⟨its,r',pl,hz⟩:=I.list hq;have hlen:=r'.length;obtain⟨o,ho,hc,n,hd⟩:=pl.isList;exact call_list_seq p (.inl rfl) ho hc hd (fun h' c' kp e=>fin its r' hz h' c' kp e) (by simp only[yJ] <;> omega)
 ·obtain⟨its,r',pl,hz⟩:=I.tuple hq;have hlen:=r'.length;obtain⟨o,ho,hc,n,hd⟩:=pl;exact call_list_seq p (.inr rfl) ho hc hd (fun h' c' kp e=>fin its r' hz h' c' kp e) (by simp only[yJ] <;> omega)
def tyV (K:W.Frag)(T:String)(x:V)(H:Hp):Prop:=match x with
 |.str _=>T = "str"
 |.int _=>T = "int"
 |.ref p=>(T = "list" /\ ∃ xs,SqL K H p xs)∨(T = "tuple" /\ ∃ o,K.lookup p=some o/\o.cls=.type "tuple" /\ o.dict=none) ∨
   (T = "dict" /\ ((∃ kvs,H p=some (.dK kvs))∨∃ kvs,H p=some (.dT kvs)))∨(T = "set" /\ ∃ S n,H p=some (.set S n))
 |_=>False
theorem pY {pins:List (Addr×Obj)}{σ:St}{H:Hp}{s:Shared}{T:String}{x:V}{v:Value}(I:Inv X pins σ H s)(r:YA x v)(ty:tyV X.K T x H) :
  s.TypeIs v T/\∀ a,v=.ref a->∃ ob,s.heap.get? a=some ob/\ob.dict=none:=by
 cases x with
 |str z=>
  obtain⟨t,rfl⟩:=r;cases (show T = "str" from ty);exact⟨typeIs_str s z t,fun _ e=>nomatch e⟩
 |int i=>
  obtain⟨t,rfl⟩:=r;cases (show T = "int" from ty);exact⟨typeIs_int s i t,fun _ e=>nomatch e⟩
 |ref p=>
  cases r;rcases ty with ⟨rfl,xs,hq⟩|⟨rfl,o,hk,hc,hd⟩|⟨rfl,hk⟩|⟨rfl,S,n,hk⟩
  ·obtain⟨its,_,pl,_⟩:=I.list hq;refine⟨pl.isList.typeIs,fun a e=>?_⟩;cases e;obtain⟨o,n,e,c,hd,_⟩:=pl;exact⟨o,e,hd⟩
  ·refine⟨⟨o,I.kIn p o hk,hc⟩,fun a e=>?_⟩;cases e;exact⟨o,I.kIn _ o hk,hd⟩
  ·have z:∃ o,s.heap.get? p=some o/\o.ExactDict:=by
    rcases hk with ⟨kvs,hk⟩|⟨kvs,hk⟩
    ·obtain⟨_,_,_,_,o,_,_,e,ex,_⟩:=I.hok p _ hk;exact⟨o,e,ex⟩
    ·obtain⟨_,_,_,_,o,_,_,e,ex,_⟩:=I.hok p _ hk;exact⟨o,e,ex⟩
   obtain⟨o,e,ex⟩:=z;refine⟨⟨o,e,ex.1⟩,fun a e2=>?_⟩;cases e2;exact⟨o,e,ex.2.1⟩
  ·obtain⟨o,_,_,_,e,ex,_⟩:=I.hok p _ hk;refine⟨⟨o,e,ex.1⟩,fun a e2=>?_⟩;cases e2;exact⟨o,e,ex.2.1⟩
 |_=>exact False.elim ty
def tBM (K:W.Frag)(T:String)(r:V->List V->Hp->VK->Prop)(to:TE)(t:TA):TE:=fun σ H Q=>to σ H fun x H1=>tyV K T x H1/\t σ H1 fun xs H2=>r x xs H2 Q
variable {o e:Expr}{es:List Expr}{to:TE}{t:TA}{name:Str}{apos cpos:Pos}{T id:String}{r:V->List V->Hp->VK->Prop}
theorem i7 (pa:PlainAttrs T)(slot:Slot T name id)(hty:typeOf (.builtin id)=pure (.type "method_descriptor"))(hm:MtR X id r)(ho:PE X o to)(ha:PA X (e::es) t)
  (hbase:attributeBase o name X.env (eval o X.env)=eval o X.env:=by rfl)
  (hfew:((backTo cpos (starEach (e::es) X.env)).all (fun x=>!x.1)&&(backToKw cpos (keywordEach [] X.env)).all (fun x=>x.1.isSome)
   && decide ((e::es).length+([]:List Keyword).length+(if ([]:List Keyword).isEmpty then 0 else 1)<30))=true:=by rfl)
  (hline:(apos.endLine==cpos.line)=true:=by rfl) (hs:starEach (e::es) X.env=(false,eval e X.env)::starEach es X.env:=by rfl) (hplain:(backTo cpos (starEach es X.env)).any (·.1)=false:=by rfl) :
  PE X (.Call (.Attribute o name apos) (e::es) [] cpos) (tBM X.K T r to t):=by
 intro pins s σ H Q I h;refine wpAny_Call_method_late hbase hfew hline rfl (thn (ho pins s σ H _ I h) fun v s1 ⟨x,H1,I1,r1,ty,q1⟩=>?_);obtain⟨h1,h2⟩:=pY I1 r1 ty;refine⟨T,id,pa,slot,hty,h1,h2,?_⟩;have hA:=ha cpos pins s1 σ H1 _ I1 q1;rw[hs] at hA ⊢;refine Calls.callWith_builtin (by show(false||(backTo cpos (starEach es X.env)).any (·.1))=false;rw[hplain] <;> rfl) (Calls.evalArgs_plain ?_);exact thn hA fun us s2 ⟨vs,H2,I2,r2,q2⟩=>hm pins s2 σ H2 x vs v us Q I2 r1 r2 q2
/- xs.append(e),list.index on a module's tuple .. are MtR facts of 06m -/
end
def MtM (X:Cx)(id:String)(r:V->List V->Hp->VK->Prop):Prop:=
 ∀ (pins:List (Addr×Obj)) (s:Shared) (σ:St) (H:Hp) (x:V) (xs:List V) (v:Value) (us:List Value) (Q:VK),Inv X pins σ H s->YA x v->YN xs us->r x xs H Q->
  wpAny (model X.prog X.w) X.A (call (.builtin id) (v::us)) (EP X pins σ Q) X.xe s
theorem YN.one:∀ {x:V} {us:List Value},YN [x] us->∃ u,us=[u]/\YA x u
 |_,_,.cons r .nil=>⟨_,rfl,r⟩
section
variable {X:Cx}{pins:List (Addr×Obj)}{σ:St}{H:Hp}{s:Shared}{l b:Addr}{xs ys zs:List V}
theorem Inv.lset {its its':List Value}{n:Nat}{f:Array Value->Array Value}{t':Nat}(I:Inv X pins σ H s)(hH:H l=some (.lst xs))
  (e:s.heap.get? l=some {cls:=.type "list", data:=.seq its.toArray n}) (hf:f its.toArray=its'.toArray) (hv:YN ys its') (hz:ys.length<=sizeLine) :
  Inv X pins σ (upd H l (.lst ys)) {s with heap:=s.heap.update l (Obj.mapSeq f),toks:=t'}:=by
 have q:=PySem.IsL.update e f;rw[hf] at q;refine I.write (x:=l) (e:=l) (by rw[hH];exact trivial) (.inl rfl) (fun b' u hb hu=>(Heap.get?_update_other s.heap (Obj.mapSeq f) (Ne.symm hb)).trans hu) ⟨_,q⟩ ?_;exact⟨hz,its',_,hv,q⟩
theorem Inv.lnew {its:List Value}{t':Nat}(I:Inv X pins σ H s)(hv:YN ys its)(hz:ys.length<=sizeLine) :
  Inv X pins σ (upd H s.heap.objs.size (.lst ys)) {s with heap:=s.heap.push {cls:=.type "list", data:=.seq its.toArray},toks:=t'}:=
 I.laid (fun _ _ q=>yk _ q) (yo _) ⟨hz,its,0,hv,yu _ rfl⟩
theorem Inv.fresh (I:Inv X pins σ H s):H s.heap.objs.size=none:=I.hok.fresh (yo _)
theorem Inv.lstM (I:Inv X pins σ H s)(hH:H l=some (.lst xs)):xs.length<=sizeLine/\∃ (its:List Value) (n:Nat),YN xs its/\xs.length=its.length/\s.heap.get? l=some {cls:=.type "list", data:=.seq its.toArray n}:=by
 obtain⟨z,its,n,r,e⟩:=I.hok l _ hH;exact⟨z,its,n,r,r.length,e⟩
theorem ip {n:Nat}(h:n<=sizeLine):Builtin.List.listTooLong n=false:=by
 unfold Builtin.List.listTooLong;exact yC (by omega)
end
section
variable {X:Cx}
def wW:V->List V->Hp->VK->Prop:=fun x vs H Q=>∃ l xs y,x=.ref l/\vs=[y]/\H l=some (.lst xs)/\xs.length<sizeLine/\Q .non (upd H l (.lst (xs++[y])))
theorem VS:MtM X "list.append" wW:=by
 intro pins s σ H x vs v us Q I rx rv h;obtain⟨l,xs,y,rfl,rfl,hH,hz,q⟩:=h;cases rx;obtain⟨u,rfl,ru⟩:=rv.one;obtain⟨z,its,n,r,hl,e⟩:=I.lstM hH;refine call_meets F.slot_list_append ⟨_,e,rfl⟩ F.entry_list_append (F.args_list_append_2 _ _) (PySem.list_append l its.toArray n u (by rw[yJ];omega)) ⟨e,?_⟩;refine⟨.non,_,I.lset (its':=its++[u]) hH e (by simp) (r.append (.cons ru .nil)) ?_,rfl,q⟩;rw[Yh,List.length_singleton];omega
def bZ:V->List V->Hp->VK->Prop:=fun x vs H Q=>∃ l b xs zs,x=.ref l/\vs=[.ref b]/\H l=some (.lst xs)/\H b=some (.lst zs)/\xs.length+zs.length<=sizeLine/\Q .non (upd H l (.lst (xs++zs)))
theorem c7:MtM X "list.extend" bZ:=by
 intro pins s σ H x vs v us Q I rx rv h;obtain⟨l,b,xs,zs,rfl,rfl,hH,hB,hz,q⟩:=h;cases rx;obtain⟨u,rfl,ru⟩:=rv.one;cases ru;obtain⟨z,its,n,r,hl,e⟩:=I.lstM hH;obtain⟨z2,its2,n2,r2,hl2,e2⟩:=I.lstM hB;have hsz:its.toArray.size+its2.toArray.size<=sizeLine:=by rw[yJ,yJ];omega
 have hlong:¬ (!its.toArray.isEmpty&&Builtin.List.listTooLong (its.toArray.size+its2.toArray.size))=true:=by
  rw[ip hsz,Bool.and_false];exact yw
 refine call_meets F.slot_list_extend ⟨_,e,rfl⟩ F.entry_list_extend (F.args_list_extend_2 _ _)
  (AutoSeq1.list_extend_list_list_0 l its.toArray n b its2.toArray n2 hlong (by rw[yJ];omega) (by omega)) ⟨e,e2,?_⟩
 refine⟨.non,_,I.lset (its':=its++its2) hH e (by simp) (r.append r2) ?_,rfl,q⟩;rw[Yh];omega
end
section
variable {prog:Program}{w:World}{A:Around}{E:Value->Shared->Prop}{s:Shared}
end
section
variable {X:Cx}
end
end L2
namespace Att
open PySem PySem.W PySem.Calls PyProof.Rows
theorem Ka {P:Params}{h:Heap}:∀ (ns:List Int) (vs:List Value),WellAll P h vs (ns.map WData.int)->IntsAre vs ns:=by
 intro ns
 induction ns with
 |nil=>
  intro vs w;rw[QB] at w;cases w;exact .nil
 |cons n ns ih=>
  intro vs w;rw[yy] at w;cases w with
  |cons a b=>
   cases a;exact .cons _ _ (ih _ b)
theorem cV {l:OpenLaw}{n:Nat}(hn:l.most=some n){P:Params}{h:Heap}{args:List WData}{vals:List Value}
  (hpre:l.row.toRowW.claim.pre args=true) (hwl:WellAll P h vals args) :
  ∃ a vs ns,vals=[Value.ref a]/\args=[WData.list (ns.map WData.int)]/\h.get? a=some {cls:=.type "list", data:=.seq vs.toArray}/\IntsAre vs ns/\ns.length<=n:=by
 have hsh:WShape.hasAll [] args [.list .int]=true:=(pre_splitW hpre).1;have hc:l.pre.holds [] {args:=args}=true:=(pre_splitW hpre).2;obtain⟨d,r,rfl,h1,h2⟩:=hasAllW_cons hsh;obtain rfl:=hasAllW_nil h2;obtain⟨xs,rfl,h3⟩:=hasW_list h1;obtain⟨ns,rfl⟩:=items_int h3;have hlen:ns.length<=n:=by
  unfold OpenLaw.pre at hc;have h4:(WTm.not (.lt (.lit (.int (n:Int))) (.len (.arg 0)))).holds [] {args:=[.list (ns.map .int)]}=true:=by
   have h4:=(holds_andW hc).1;rw[hn] at h4;exact h4
  have h5:=condW_of h4 (w_not (w_lt w_lit (w_len_list (w_arg rfl))));rw[yf] at h5;refine Nat.le_of_not_lt fun q=>?_;have q':(n:Int)<((ns.length:Nat):Int):=by omega
  first
   | (rw[yO q'] at h5;exact absurd h5 (by decide))
   | (simp at h5;omega)
 cases hwl with
 |cons w1 w2=>
  cases w2;cases w1 with
  |list ho hall=>exact⟨_,_,ns,rfl,rfl,ho,Ka ns _ hall,hlen⟩
theorem cI (l:OpenLaw)(args:List WData):l.row.toRowW.claim.post args (.bool true) args=true:=
 postW_of (r:=l.row.toRowW) (X:=(true==true))
  (show WShape.has [] (.bool true) .bool=true by first|rfl|decide|simp[WShape.has,WShape.arms,WShape.armsAll])
  (show(WTm.eq .res (.lit (.bool true))).value [] {args:=args,res:=some (.bool true),after:=args}=some (.bool (true==true)) from w_eq_bool (w_res rfl) w_lit) rfl
theorem attach_call {l:OpenLaw}{n:Nat}{q:Program}{loose:List Str}{XP:(Str->Option Value)->Heap->Prop}{YP:World->Heap->Prop}{d:DefRec}
  (hn:l.most=some n) (hdf:d.params.defaults=[])
  (call:∀ (w:World) (s₀ s₁:Shared) (mg mb:Str->Option Value) (fa:Addr) (o:Obj) (pm cd doc:Value) (a:Addr) (vs:List Value) (ns:List Int),
   Ground q loose [] XP w s₀ mg mb s₁.heap->YP w s₁.heap->
   s₁.heap.get? fa=some o->o.data=.func (docDef d.name d.params d.body d.scope pm cd doc)->s₁.heap.CodeRec cd d.name->mg d.name=some (.ref fa)->
   s₁.heap.get? a=some {cls:=.type "list", data:=.seq vs.toArray}->IntsAre vs ns->ns.length<=n->s₁.gens=#[]->
   codeAny (model l.prog w) callerA (.call (.ref fa) ⟨[.ref a],[]⟩) (fun r s'=>r=.ok (.ret (.bool true))/\OldK s₁.heap s'.heap/\s'.os=s₁.os/\AllBare s'.gens) s₁) :
  WalkO q loose XP YP l.row.toRowW d [] (fun f vs=>PySem.call f vs):=by
 intro w s₀ s₁ mg mb G Y fa o pm cd doc dV kV ho hd hcd hD hmg hg args vals as hpre hlay hrd hwl hlo;obtain rfl:dV=.none:=Dflts.none hD hdf;obtain rfl:kV=.none:=Dflts.noKw hD;obtain⟨a,vs,ns,rfl,rfl,hobj,hints,hlen⟩:=cV hn hpre hwl;refine enter_call (codeAny_mono (call w s₀ s₁ mg mb fa o pm cd doc a vs ns G Y ho (fd_plain hd) hcd hmg hobj hints hlen hg) fun r s' hq=>?_);obtain⟨rfl,h2,h3,h4⟩:=hq;exact⟨.inl ⟨.bool true,.bool true,[],rfl,fun _=>rfl,.bool true,cI l _,fun _=>⟨List.Pairwise.nil,fun _ hm=>(nomatch hm)⟩⟩,h2,h3,h4⟩
section
variable {prog:Program}{w:World}{A:Around}{E:Value->Shared->Prop}{s:Shared}{K:Frag}
end
end Att
namespace L2
open PySem PySem.Spec PyProof.Rows
theorem UB:∀ {vs:List Value} {ns:List Int},IntsAre vs ns->YN (ns.map V.int) vs
 |_,_,.nil=>.nil
 |_,_,.cons n t h=>.cons ⟨t,rfl⟩ (UB h)
def pH (H:Hp):Prop:=∀ b,H b=none∨∃ o xs,H b=some (.frz o (.lst xs))
theorem eA {P:Program}{w:World}{K:W.Frag}{mg mb:Str->Option Value}{CX:CXT}{k:Nat}{fa a:Addr}{fd:FuncData}{x:Str}{sp:Sp}{s₁:Shared}{vs:List Value}{ns:List Int}
  (KX:K.In s₁.heap) (hns:s₁.heap.Ns mainGlobals mg) (hb:s₁.heap.Ns builtinsNs mb) (hbb:∀ x:Str,x ≠ "__name__" -> mb x=bootBuiltins x) (hlim:s₁.heap.NoLimit) (hsee:s₁.heap.NoSeer) (hg:s₁.gens=#[])
  (ha:s₁.heap.get? a=some {cls:=.type "list", data:=.seq vs.toArray}) (hi:IntsAre vs ns) (hl:ns.length<=sizeLine) (hr:Room k callerA)
  (F:∀ base:Heap,K.In base->base.Ns mainGlobals mg->FnOk P w K mg base CX k fa fd [x] sp) (hbind:∀ (s:Shared) (u:Value),BindsTo s fd ⟨[u],[]⟩ [(x,u)])
  (hsp:∀ H:Hp,pH H->SqL K H a (ns.map V.int)->sp [.ref a] H (fun v _=>v=.bl true) fun _ _ _=>False)
  (hCX:∀ H e s',CX [] H s₁ (fun _ _ _=>False) e s'->False) :
  codeAny (model P w) callerA (.call (.ref fa) ⟨[.ref a],[]⟩) (fun r s'=>r=.ok (.ret (.bool true))/\OldK s₁.heap s'.heap/\s'.os=s₁.os/\AllBare s'.gens) s₁:=by
 have rv:=UB hi;have lenV:=hi.length
 -- from an abstract heap in which nothing but the script may be tracked
 have core:∀ H:Hp,pH H->SqL K H a (ns.map V.int)->HOk P w H s₁.heap->(∀ b,H b≠none->b=a)->(H a≠none->K.lookup a=none)->
   codeAny (model P w) callerA (.call (.ref fa) ⟨[.ref a],[]⟩) (fun r s'=>r=.ok (.ret (.bool true))/\OldK s₁.heap s'.heap/\s'.os=s₁.os/\AllBare s'.gens) s₁:=by
  intro H hO hS hok hA hK;have base_of:∀ {b:Addr} {o:Obj},s₁.heap.get? b=some o->H b=none->(w9 s₁.heap H).get? b=some o:=fun e n=>iO e n;have noA:∀ {b:Addr} {o:Obj} {es:Array DictEntry} {ep:Nat},s₁.heap.get? b=some o->o.data=.dict es ep->H b=none:=fun {b o es ep} e d=>by
   cases q:H b with
   |none=>rfl
   |some u=>
    have e':b=a:=hA b (by rw[q];simp);subst e';rw[ha] at e;cases e;have d':Data.seq vs.toArray _=Data.dict es ep:=d;cases d'
  have noM:∀ {b:Addr} {o:Obj},s₁.heap.get? b=some o->o.cls=.type "module" -> H b=none:=fun {b o} e d=>by
   cases q:H b with
   |none=>rfl
   |some u=>
    have e':b=a:=hA b (by rw[q];simp);subst e';rw[ha] at e;cases e;have d':Value.type "list" = Value.type "module" := d;injection d' with z;exact absurd z (by decide)
  have nsK:∀ {b:Addr} {m:Str->Option Value},s₁.heap.Ns b m->(w9 s₁.heap H).Ns b m:=fun {b m} ⟨o,es,ep,e,d,r⟩=>⟨o,es,ep,base_of e (noA e d),d,r⟩
  have hKb:K.In (w9 s₁.heap H):=fun b o e=>base_of (KX b o e) (by
   cases q:H b with
   |none=>rfl
   |some u=>
    have e':b=a:=hA b (by rw[q];simp);subst e';rw[hK (by rw[q];simp)] at e;cases e)
  have hM:Mod K mg (w9 s₁.heap H):=⟨hKb,nsK hns,⟨mb,nsK hb,hbb⟩,(let ⟨mc,h1,h2⟩:=hlim;⟨mc,nsK h1,h2⟩),⟨(let ⟨mc,a1,b1⟩:=hsee.statics;⟨mc,nsK a1,b1⟩),(let ⟨mc,a1,b1⟩:=hsee.mods;⟨mc,nsK a1,b1⟩),(let ⟨mc,a1,b1⟩:=hsee.imp;⟨mc,nsK a1,b1⟩),(let ⟨mg',bm,ob,a1,b1,c1,d1,f1⟩:=hsee.main;⟨mg',bm,ob,nsK a1,b1,base_of c1 (noM c1 d1),d1,f1⟩)⟩⟩
  have e0:Env0 P w K mg (w9 s₁.heap H) callerA [] s₁ H:=⟨rfl,hM,fun b o e=>l9 e,Nat.le_of_eq (cM _ _),trivial,fun b hb=>absurd (show b∈([]:List Addr) from hb) (by simp),hok,.of_eq hg⟩
  refine codeAny_mono ((F _ hKb (nsK hns)).run callerA [] s₁ H ⟨[.ref a],[]⟩ [.ref a] [.ref a] _ _ hr e0 (hbind s₁ (.ref a)) (.cons rfl .nil) (hsp H hO hS)) fun r s' h=>?_;cases r with
  |error e=>exact(hCX H e s' h).elim
  |ok fl=>
   cases fl with
   |next=>exact False.elim h
   |brk=>exact False.elim h
   |cont=>exact False.elim h
   |ret u=>
    obtain⟨v,H',os,bare,un,hok',r',q⟩:=h;have q':v=.bl true:=q;subst q';obtain rfl:u=Value.bool true:=r';refine⟨rfl,OldK.of_keep fun b o e=>?_,os,bare⟩;cases q:H b with
    |none=>exact un.keep b o e q (by intro z;exact absurd (show b∈([]:List Addr) from z) (by simp)) (by simp)
    |some u=>
     rcases hO b with z|⟨ob,xs,z⟩
     ·rw[q] at z;cases z
     ·have z2:=un.frzs b ob _ z;obtain⟨e1,_⟩:=hok b _ z;obtain⟨e2,_⟩:=hok' b _ z2;rw[e] at e1;cases e1;exact e2
 cases hk:K.lookup a with
 |some o=>
  -- the script is one of the module's own objects
  have e:=KX a o hk;rw[ha] at e;cases e;refine core (fun _=>none) (fun _=>.inl rfl) (.inr ⟨_,vs.toArray,_,hk,rfl,rfl,rfl,by rw[yJ,lenV];exact hl,by simpa using rv⟩) (fun b u z=>by have z':(none:Option HO)=some u:=z;cases z') (fun b z=>absurd rfl z) fun z=>absurd rfl z
 |none=>
  refine core (fun b=>if b=a then some (.frz {cls:=.type "list", data:=.seq vs.toArray} (.lst (ns.map V.int))) else none) (fun b=>?_) (.inl (.inr ⟨{cls:=.type "list", data:=.seq vs.toArray},ye rfl⟩)) (fun b u z=>?_) (fun b z=>?_) fun _=>hk
  ·by_cases hb:b=a
   ·exact .inr ⟨_,_,ye hb⟩
   ·exact .inl (yd hb)
  ·by_cases hb:b=a
   ·have z':=(ye hb).symm.trans z;cases z';subst hb;exact⟨ha,by rw[yf];exact hl,vs,_,rv,ha⟩
   ·have z':=(yd hb).symm.trans z;cases z'
  ·by_cases hb:b=a
   ·exact hb
   ·exact absurd (yd hb) z
abbrev KOf {K:W.Frag}{h:Heap}(_:K.In h):W.Frag:=K
theorem mw {l:W.OpenLaw}{n k:Nat}{q:Program}{loose:List Str}{XP:(Str->Option Value)->Heap->Prop}{YP:World->Heap->Prop}{d:DefRec}{K:Params->W.Frag}{CX:World->CXT}{sp:World->Sp}{x:Str}
  (hn:l.most=some n) (hn2:n<=sizeLine) (hi:importsNone q=true) (hdf:d.params.defaults=[]) (hr:Room k callerA)
  (hY:∀ (w:World) (h:Heap),YP w h->(K w.params).In h)
  (F:∀ (w:World) (mg:Str->Option Value) (fa:Addr) (h:Heap),(K w.params).In h->h.Ns mainGlobals mg->mg d.name=some (.ref fa)->
   ∃ fd:FuncData,(∀ (s:Shared) (u:Value),BindsTo s fd ⟨[u],[]⟩ [(x,u)])/\
    ∀ base:Heap,(K w.params).In base->base.Ns mainGlobals mg->FnOk l.prog w (K w.params) mg base (CX w) k fa fd [x] (sp w))
  (hsp:∀ (w:World) (H:Hp) (a:Addr) (ns:List Int),ns.length<=n->pH H->SqL (K w.params) H a (ns.map V.int)->sp w [.ref a] H (fun v _=>v=.bl true) fun _ _ _=>False)
  (hCX:∀ (w:World) (H:Hp) (s:Shared) (e:Value) (s':Shared),CX w [] H s (fun _ _ _=>False) e s'->False) :
  W.WalkO q loose XP YP l.row.toRowW d [] (fun f vs=>PySem.call f vs):=by
 refine Att.attach_call hn hdf fun w s₀ s₁ mg mb fa o pm cd doc a vs ns G Y ho hd hcd hmg hobj hints hlen hg=>?_;have KX:=hY w _ Y;obtain⟨fd,hb,hF⟩:=F w mg fa _ KX G.T.g hmg;exact eA KX G.T.g G.T.b G.T.builtins G.T.nolimit (G.T.seer hi) hg hobj hints (Ye hlen hn2) hr hF hb (fun H hO hS=>hsp w H a ns hlen hO hS) fun H e s'=>hCX w H s₁ e s'
abbrev CX0:CXT:=fun _ _ _ _ _ _=>False
abbrev E0:XK:=fun _ _ _=>False
theorem kJ {X:Cx}:Vd CX0 X E0:=fun _ _ _ _ _ _ _ h=>h.elim
structure Fun (K:W.Frag)(x qual:Str)(st:Stmt)(f:Addr)(fd:FuncData):Prop where
 ex:∃ (oc:Value) (od:Option Addr) (kV doc pm:Value) (an:Option Addr) (cdv ct:Value) (osl:Array (Option Value)),
  fd=W.fnOf x qual (jg st) (YT st) (yi st) .none kV doc pm an cdv ct/\K.lookup f=some ⟨oc,od,.func fd,osl⟩/\W.codeIn K cdv qual=true
 kp:W.keepIn K (.ref f)=true
section
variable {P:Program}{w:World}{K:W.Frag}{mg:Str->Option Value}{base:Heap}
theorem Fun.ok {x qual:Str}{st:Stmt}{f:Addr}{fd:FuncData}{N ps:List Str}{k:Nat}{sp:Sp}(F:Fun K x qual st f fd)(S:FnScope N ps (yi st))(len:∀ vs H Q E,sp vs H Q E->vs.length=ps.length)
  (hbody:∀ (cdv:Value) (A:Around) (outer:List Env) (s:Shared) (H:Hp) (vs:List V) (Q:VK) (E:XK),Room k (A.deeper (envOfC qual (yi st) s.heap.objs.size f cdv))->sp vs H Q E->
   ∃ t,PSs (uv CX0 P w K mg base N qual (yi st) f cdv A outer s H E).nox (YT st) t/\t {nx:=fun _ H'=>Q .non H',rt:=Q} (start N vs) H):FnOk P w K mg base CX0 (k+1) f fd ps sp:=by
 obtain⟨oc,od,kV,doc,pm,an,cdv,ct,osl,rfl,lk,hcd⟩:=F.ex;refine sI lk hcd S len fun A outer s H vs Q E hr hsp=>?_;obtain⟨t,h,q⟩:=hbody cdv A outer s H vs Q E hr hsp;exact⟨t,h.nox,q⟩
theorem Fun.binds {x qual:Str}{st:Stmt}{f:Addr}{fd:FuncData}{ps:List Str}(F:Fun K x qual st f fd)
  (h:∀ (kV doc pm:Value) (an:Option Addr) (cdv ct:Value) (us:List Value),us.length=ps.length->bindArgs (W.fnOf x qual (jg st) (YT st) (yi st) .none kV doc pm an cdv ct) ⟨us,[]⟩=pure (ps.zip us)):zo K fd ps []:=by
 obtain⟨oc,od,kV,doc,pm,an,cdv,ct,osl,rfl,lk,hcd⟩:=F.ex;exact .all (h kV doc pm an cdv ct)
theorem Wp {x qual:Str}{st:Stmt}{f:Addr}{oc:Value}{od an:Option Addr}{osl:Array (Option Value)}{kV doc pm cdv ct:Value}(l:K.lookup f=some ⟨oc,od,.func (W.fnOf x qual (jg st) (YT st) (yi st) .none kV doc pm an cdv ct),osl⟩)
  (c:W.codeIn K cdv qual=true) (k:W.keepIn K (.ref f)=true):Fun K x qual st f (W.fnOf x qual (jg st) (YT st) (yi st) .none kV doc pm an cdv ct):=⟨⟨oc,od,kV,doc,pm,an,cdv,ct,osl,rfl,l,c⟩,k⟩
end
section
variable {X:Cx}
end
theorem fV {A B:Prop}(h:B):if false=true then A else B:=by
 rw[yd yw];exact h
theorem fZ {A B:Prop}(h:A):if true=true then A else B:=by
 rw[ye rfl];exact h
def yW (H H':Hp):Prop:=∀ b o,H b=some o->H' b=some o
theorem yW.refl (H:Hp):yW H H:=fun _ _ h=>h
theorem yW.trans {H H1 H2:Hp}(a:yW H H1)(b:yW H1 H2):yW H H2:=fun c o h=>b c o (a c o h)
theorem yW.free {H H':Hp}(e:yW H H'){l:Addr}(h:H' l=Option.none):H l=Option.none:=by
 cases q:H l with
 |none=>rfl
 |some o=>
  rw[e l o q] at h;cases h
theorem yW.seq {K:W.Frag}{H H':Hp}{a:Addr}{xs:List V}(e:yW H H')(h:SqL K H a xs):SqL K H' a xs:=by
 rcases h with (h|⟨o,h⟩)|h
 ·exact .inl (.inl (e _ _ h))
 ·exact .inl (.inr ⟨o,e _ _ h⟩)
 ·exact .inr h
end L2
set_option maxHeartbeats 4000000
namespace PySem
open Sem (wp)
section
variable {prog:Program}{w:World}{A:Around}{E:Value->Shared->Prop}{s:Shared}
abbrev Zl (h:Heap)(z TI TO:Addr)(f0:Value)(f1:Bool):Prop:=h.get? z=some {cls:=.type "zip", dict:=none,data:=.fields #[f0,.bool f1,.bool false,.ref TI,.ref TO],slots:=#[]}
structure ZipL (h:Heap)(TI i1 i2 t1 t2:Addr)(xs ys:Array Value)(k:Nat):Prop where
 pr:IsPair h TI (.ref i1) (.ref i2)
 a1:h.IsListIter i1 t1 k
 a2:h.IsListIter i2 t2 k
 b1:h.IsList t1 xs
 b2:h.IsList t2 ys
theorem ZipL.put {h g:Heap}{z TI TO i1 i2 t1 t2:Addr}{xs ys:Array Value}{k:Nat}(c:ZipL h TI i1 i2 t1 t2 xs ys k)(e:∀ b,b=TI∨b=i1∨b=i2∨b=t1∨b=t2->∀ o,h.get? b=some o->g.get? b=some o):ZipL g TI i1 i2 t1 t2 xs ys k:=
 ⟨e _ (.inl rfl) _ c.pr,c.a1.at (e _ (.inr (.inl rfl))),c.a2.at (e _ (.inr (.inr (.inl rfl)))),(let ⟨o,q,r⟩:=c.b1;⟨o,e _ (.inr (.inr (.inr (.inl rfl)))) _ q,r⟩),(let ⟨o,q,r⟩:=c.b2;⟨o,e _ (.inr (.inr (.inr (.inr rfl)))) _ q,r⟩)⟩
theorem dS {z TI TO i1 i2 t1 t2:Addr}{k:Nat}{xs ys:Array Value}{x y a b:Value}{Q:Value->Shared->Prop}(D:ZipApart z TI TO i1 i2 t1 t2)(hz:Zl s.heap z TI TO .none false)(c:ZipL s.heap TI i1 i2 t1 t2 xs ys k)(ho:IsPair s.heap TO a b)(hx:xs[k]?=some x)(hy:ys[k]?=some y)
  (K:∀ g,Zl g z TI TO (rawInt s.heap.objs.size) false->IsPair g TO x y->ZipL g TI i1 i2 t1 t2 xs ys (k+1)->IsPair g s.heap.objs.size x y->g.objs.size=s.heap.objs.size+1->(∀ b o,b≠z->b≠TO->b≠i1->b≠i2->s.heap.get? b=some o->g.get? b=some o)->Q (.ref s.heap.objs.size) {s with heap:=g}) :
  wpAny (model prog w) A (Builtin.«zip.__next__» ⟨[.ref z],[]⟩) (fun fin s'=>∃ v,fin=.done (.ret v)/\Q v s') E s:=by
 show wpAny _ _ (field (.ref z) 2 >>= _) _ _ _;refine ya (YM (s:=s) hz rfl (x:=.bool false) rfl ?_);show wpAny _ _ (field (.ref z) 3 >>= _) _ _ _;refine ya (YM (s:=s) hz rfl (x:=.ref TI) rfl ?_);refine ya (wpAny_seqItems (s:=s) c.pr rfl ?_);show wpAny _ _ (Builtin.SmallTypes.ownedTupleIsFree (.ref z) >>= _) _ _ _;refine ya ?_;unfold Builtin.SmallTypes.ownedTupleIsFree;refine ya (YM (s:=s) hz rfl (x:=.none) rfl (yg ?_));simp only[if_true];refine ya (wpAny_rule (ya (YM (s:=s) hz rfl (x:=.ref TO) rfl (ya (YR hz (by simp) fun g1 z1 s1=>ya ?_)))));have z1:Zl g1 z TI TO .ellipsis false:=z1;simp only[List.zipIdx_cons,List.zipIdx_nil,jV,List.forIn_nil];refine ya (ya (wpAny_onRaise ?_));show wpAny _ _ (Builtin.SmallTypes.nextOf (.ref i1) >>= _) _ _ _;refine ya (YJ (c.a1.extBut s1.extBut D.i1z) (c.b1.extBut s1.extBut D.l1z) hx fun g2 j1 s2=>yg ?_);have o2:IsPair g2 TO a b:=s2.extBut _ _ D.TOi1 (s1.extBut _ _ D.TOz ho);refine ya (wpAny_seqItems o2 rfl (ya (wpAny_updateSeq_pair o2 fun g3 o3 s3=>ya (wpAny_letGo (yg ?_)))));have o3:IsPair g3 TO x b:=o3;refine ya (ya (wpAny_onRaise ?_));show wpAny _ _ (Builtin.SmallTypes.nextOf (.ref i2) >>= _) _ _ _;refine ya (YJ (((c.a2.extBut s1.extBut D.i2z).extBut s2.extBut D.i12.symm).extBut s3.extBut D.TOi2.symm) (((c.b2.extBut s1.extBut D.l2z).extBut s2.extBut D.l2i1).extBut s3.extBut D.l2TO) hy fun g4 j2 s4=>yg ?_);have o4:IsPair g4 TO x b:=s4.extBut _ _ D.TOi2 o3;refine ya (wpAny_seqItems o4 rfl (ya (wpAny_updateSeq_pair o4 fun g5 o5 s5=>ya (wpAny_letGo (yg (yg ?_))))));have o5:IsPair g5 TO x y:=o5;refine ya (wpAny_seqItems o5 rfl (ya (wpAny_newTuple ?_)));have sz:g5.objs.size=s.heap.objs.size:=by rw[s5.1,s4.1,s3.1,s2.1,s1.1]
 have z5:Zl g5 z TI TO .ellipsis false:=s5.extBut _ _ D.TOz.symm (s4.extBut _ _ D.i2z.symm (s3.extBut _ _ D.TOz.symm (s2.extBut _ _ D.i1z.symm z1)));have k5:∀ b o,b≠z->b≠TO->b≠i1->b≠i2->s.heap.get? b=some o->g5.get? b=some o:=fun b o c1 c2 c3 c4 e=>
  s5.extBut _ _ c2 (s4.extBut _ _ c4 (s3.extBut _ _ c2 (s2.extBut _ _ c3 (s1.extBut _ _ c1 e))))
 have j1':g5.IsListIter i1 t1 (k+1):=((j1.extBut s3.extBut D.TOi1.symm).extBut s4.extBut D.i12).extBut s5.extBut D.TOi1.symm;have j2':g5.IsListIter i2 t2 (k+1):=j2.extBut s5.extBut D.TOi2.symm;have lz:z<g5.objs.size:=yj z5;show wpAny _ _ (Builtin.SmallTypes.ownedTupleHandOut (.ref z) (.ref g5.objs.size) >>= _) _ _ _;refine ya ?_;unfold Builtin.SmallTypes.ownedTupleHandOut;have z6:Zl (g5.push {cls:=.type "tuple", data:=.seq #[x,y]}) z TI TO .ellipsis false:=yk _ z5;refine ya (YR z6 (by simp) fun g7 z7 s7=>?_);have z7:Zl g7 z TI TO (rawInt g5.objs.size) false:=z7;refine YR z7 (by simp) fun g8 z8 s8=>?_;have z8:Zl g8 z TI TO (rawInt g5.objs.size) false:=z8;have up:∀ b o,b≠z->g5.get? b=some o->g8.get? b=some o:=fun b o c1 e=>s8.extBut _ _ c1 (s7.extBut _ _ c1 (yk _ e));have nw:IsPair g8 g5.objs.size x y:=s8.extBut _ _ (qN lz) (s7.extBut _ _ (qN lz) (yu _ rfl));have sz8:g8.objs.size=g5.objs.size+1:=by rw[s8.1,s7.1,Heap.size_push]
 rw[sz] at z8 nw sz8;refine yg ⟨_,rfl,?_⟩;show Q (.ref g5.objs.size) _;rw[sz];have w5:∀ b o,b≠z->b≠TO->b≠i1->b≠i2->s.heap.get? b=some o->g8.get? b=some o:=fun b o c1 c2 c3 c4 e=>up b o c1 (k5 b o c1 c2 c3 c4 e);exact K g8 z8 (up _ _ D.TOz o5) ⟨w5 _ _ D.TIz D.TITO D.TIi1 D.TIi2 c.pr,j1'.at fun o e=>up _ o D.i1z e,j2'.at fun o e=>up _ o D.i2z e,(let ⟨o,q,r⟩:=c.b1;⟨o,w5 _ _ D.l1z D.l1TO D.l1i1 D.l1i2 q,r⟩),(let ⟨o,q,r⟩:=c.b2;⟨o,w5 _ _ D.l2z D.l2TO D.l2i1 D.l2i2 q,r⟩)⟩ nw sz8 w5
theorem wg {a:Addr}{o:Obj}{Q:Option Obj->Shared->Prop}(ho:s.heap.get? a=some o)(h:Q (some o) s):wpAny (model prog w) A (loadIfAlive a) Q E s:=fun Γ p _=>by
 unfold loadIfAlive;rw[Sem.wp_loadIfAlive,ho];exact(Sem.wp_pure ..).mpr h
theorem U1 {z TI TO T:Addr}{f1:Bool}{oT:Obj}{Q:Bool->Shared->Prop}(hz:Zl s.heap z TI TO (rawInt T) f1)(hT:s.heap.get? T=some oT)(K:∀ g,Zl g z TI TO (rawInt T) true->Heap.SameBut z s.heap g->Q false {s with heap:=g}) :
  wpAny (model prog w) A (Builtin.SmallTypes.ownedTupleIsFree (.ref z)) Q E s:=by
 unfold Builtin.SmallTypes.ownedTupleIsFree;refine ya (YM (s:=s) hz rfl (x:=rawInt T) rfl ?_);show wpAny _ _ (loadIfAlive T >>= _) _ _ _;refine ya (wg hT ?_);simp only[Option.isNone_some,YO,if_false];refine ya (YM (s:=s) hz rfl (x:=.bool f1) rfl ?_);cases f1 with
 |true=>exact yg (K s.heap hz (Heap.SameBut.refl ..))
 |false=>exact ya (YR hz (by simp) fun g z1 s1=>yg (K g z1 s1))
theorem dz {z TI TO i1 i2 t1 t2 T:Addr}{k:Nat}{xs ys:Array Value}{x y:Value}{f1:Bool}{oT:Obj}{Q:Value->Shared->Prop}(D:ZipApart z TI TO i1 i2 t1 t2)(hz:Zl s.heap z TI TO (rawInt T) f1)(c:ZipL s.heap TI i1 i2 t1 t2 xs ys k)(hT:s.heap.get? T=some oT)(hx:xs[k]?=some x)(hy:ys[k]?=some y)
  (K:∀ g,Zl g z TI TO (rawInt T) true->ZipL g TI i1 i2 t1 t2 xs ys (k+1)->IsPair g s.heap.objs.size x y->g.objs.size=s.heap.objs.size+1->(∀ b o,b≠z->b≠i1->b≠i2->s.heap.get? b=some o->g.get? b=some o)->Q (.ref s.heap.objs.size) {s with heap:=g}) :
  wpAny (model prog w) A (Builtin.«zip.__next__» ⟨[.ref z],[]⟩) (fun fin s'=>∃ v,fin=.done (.ret v)/\Q v s') E s:=by
 show wpAny _ _ (field (.ref z) 2 >>= _) _ _ _;refine ya (YM (s:=s) hz rfl (x:=.bool false) rfl ?_);show wpAny _ _ (field (.ref z) 3 >>= _) _ _ _;refine ya (YM (s:=s) hz rfl (x:=.ref TI) rfl ?_);refine ya (wpAny_seqItems (s:=s) c.pr rfl ?_);show wpAny _ _ (Builtin.SmallTypes.ownedTupleIsFree (.ref z) >>= _) _ _ _;refine ya ?_;refine U1 hz hT fun g1 z1 s1=>?_;simp only[YO,if_false,←Array.forIn_toList,jV,List.forIn_nil];refine ya (ya (ya (Yt ?_)));show wpAny _ _ (Builtin.SmallTypes.nextOf (.ref i1) >>= _) _ _ _;refine ya (YJ (c.a1.extBut s1.extBut D.i1z) (c.b1.extBut s1.extBut D.l1z) hx fun g2 j1 s2=>yg (yg ?_));refine ya (ya (Yt ?_));show wpAny _ _ (Builtin.SmallTypes.nextOf (.ref i2) >>= _) _ _ _;refine ya (YJ ((c.a2.extBut s1.extBut D.i2z).extBut s2.extBut D.i12.symm) ((c.b2.extBut s1.extBut D.l2z).extBut s2.extBut D.l2i1) hy fun g3 j2 s3=>yg (yg (yg ?_)));refine ya (wpAny_newTuple (yg ⟨_,rfl,?_⟩) (by show(2:Nat)<=sizeLine;decide));have sz:g3.objs.size=s.heap.objs.size:=by rw[s3.1,s2.1,s1.1]
 have k3:∀ b o,b≠z->b≠i1->b≠i2->s.heap.get? b=some o->g3.get? b=some o:=fun b o c1 c3 c4 e=>s3.extBut _ _ c4 (s2.extBut _ _ c3 (s1.extBut _ _ c1 e));have z3:Zl g3 z TI TO (rawInt T) true:=s3.extBut _ _ D.i2z.symm (s2.extBut _ _ D.i1z.symm z1);have j1':g3.IsListIter i1 t1 (k+1):=j1.extBut s3.extBut D.i12;show Q (.ref g3.objs.size) _;have nw:IsPair (g3.push {cls:=.type "tuple", data:=.seq #[x,y]}) g3.objs.size x y:=yu _ rfl;rw[sz] at nw ⊢;have up:∀ b o,g3.get? b=some o->(g3.push {cls:=.type "tuple", data:=.seq #[x,y]}).get? b=some o:=fun b o e=>yk _ e;exact K _ (up _ _ z3) ⟨up _ _ (k3 _ _ D.TIz D.TIi1 D.TIi2 c.pr),j1'.at fun o e=>up _ o e,j2.at fun o e=>up _ o e,(let ⟨o,q,r⟩:=c.b1;⟨o,up _ _ (k3 _ _ D.l1z D.l1i1 D.l1i2 q),r⟩),(let ⟨o,q,r⟩:=c.b2;⟨o,up _ _ (k3 _ _ D.l2z D.l2i1 D.l2i2 q),r⟩)⟩ nw (by rw[Heap.size_push,sz]) fun b o c1 c2 c3 e=>up _ _ (k3 b o c1 c2 c3 e)
theorem eT {z TI TO i1 i2 t1 t2:Addr}{k:Nat}{xs ys:Array Value}{a b f0:Value}{f1:Bool}{Q:Fin->Shared->Prop}(hh:A.handled=none)(D:ZipApart z TI TO i1 i2 t1 t2)(hz:Zl s.heap z TI TO f0 f1)(hf:(f0=.none/\f1=false)∨∃ T o,f0=rawInt (T:Nat)/\s.heap.get? T=some o)(c:ZipL s.heap TI i1 i2 t1 t2 xs ys k)(ho:IsPair s.heap TO a b)(hend:xs[k]?=none∨ys[k]?=none)
  (K:∀ g e,(∀ b o,b≠z->b≠TO->b≠i1->b≠i2->s.heap.get? b=some o->g.get? b=some o)->(∃ o,g.get? e=some o/\o.cls=.type "StopIteration")->E (.ref e) {s with heap:=g}) :
  wpAny (model prog w) A (Builtin.«zip.__next__» ⟨[.ref z],[]⟩) Q E s:=by
 show wpAny _ _ (field (.ref z) 2 >>= _) _ _ _;refine ya (YM (s:=s) hz rfl (x:=.bool false) rfl ?_);show wpAny _ _ (field (.ref z) 3 >>= _) _ _ _;refine ya (YM (s:=s) hz rfl (x:=.ref TI) rfl ?_);refine ya (wpAny_seqItems (s:=s) c.pr rfl ?_);show wpAny _ _ (Builtin.SmallTypes.ownedTupleIsFree (.ref z) >>= _) _ _ _;refine ya ?_;rcases hf with ⟨rfl,rfl⟩|⟨T,oT,rfl,hT⟩
 ·unfold Builtin.SmallTypes.ownedTupleIsFree;refine ya (YM (s:=s) hz rfl (x:=.none) rfl (yg ?_));simp only[if_true];refine ya (wpAny_rule (ya (YM (s:=s) hz rfl (x:=.ref TO) rfl (ya (YR hz (by simp) fun g1 z1 s1=>ya ?_)))));have z1:Zl g1 z TI TO .ellipsis false:=z1;simp only[List.zipIdx_cons,List.zipIdx_nil,jV,List.forIn_nil];refine ya (ya (wpAny_onRaise ?_));show wpAny _ _ (Builtin.SmallTypes.nextOf (.ref i1) >>= _) _ _ _;cases hx:xs[k]? with
  |none=>
   refine ya (wpAny_nextOf_list_end hh (c.a1.extBut s1.extBut D.i1z) (c.b1.extBut s1.extBut D.l1z) hx fun g2 e s2 he=>?_);obtain⟨oe,h1,h2⟩:=he;have z2:Zl g2 z TI TO .ellipsis false:=s2 _ _ D.i1z.symm z1;have ne:e≠z:=fun q=>by subst q;rw[z2] at h1;cases h1;simp at h2
   exact YR z2 (by simp) fun g3 _ s3=>K g3 e (fun b o c1 _ c3 _ q=>s3.extBut _ _ c1 (s2 _ _ c3 (s1.extBut _ _ c1 q))) ⟨oe,s3.extBut _ _ ne h1,h2⟩
  |some x=>
   have hy:ys[k]?=none:=hend.resolve_left (by rw[hx];exact fun q=>nomatch q);refine ya (YJ (c.a1.extBut s1.extBut D.i1z) (c.b1.extBut s1.extBut D.l1z) hx fun g2 j1 s2=>yg ?_);have o2:IsPair g2 TO a b:=s2.extBut _ _ D.TOi1 (s1.extBut _ _ D.TOz ho);refine ya (wpAny_seqItems o2 rfl (ya (wpAny_updateSeq_pair o2 fun g3 o3 s3=>ya (wpAny_letGo (yg (ya (ya (wpAny_onRaise ?_))))))));show wpAny _ _ (Builtin.SmallTypes.nextOf (.ref i2) >>= _) _ _ _;refine ya (wpAny_nextOf_list_end hh (((c.a2.extBut s1.extBut D.i2z).extBut s2.extBut D.i12.symm).extBut s3.extBut D.TOi2.symm) (((c.b2.extBut s1.extBut D.l2z).extBut s2.extBut D.l2i1).extBut s3.extBut D.l2TO) hy fun g4 e s4 he=>?_);obtain⟨oe,h1,h2⟩:=he;have z4:Zl g4 z TI TO .ellipsis false:=s4 _ _ D.i2z.symm (s3.extBut _ _ D.TOz.symm (s2.extBut _ _ D.i1z.symm z1));have ne:e≠z:=fun q=>by subst q;rw[z4] at h1;cases h1;simp at h2
   exact YR z4 (by simp) fun g5 _ s5=>K g5 e (fun b o c1 c2 c3 c4 q=>s5.extBut _ _ c1 (s4 _ _ c4 (s3.extBut _ _ c2 (s2.extBut _ _ c3 (s1.extBut _ _ c1 q))))) ⟨oe,s5.extBut _ _ ne h1,h2⟩
 ·refine U1 hz hT fun g1 z1 s1=>?_;simp only[YO,if_false,←Array.forIn_toList,jV,List.forIn_nil];refine ya (ya (ya (Yt ?_)));show wpAny _ _ (Builtin.SmallTypes.nextOf (.ref i1) >>= _) _ _ _;cases hx:xs[k]? with
  |none=>exact ya (wpAny_nextOf_list_end hh (c.a1.extBut s1.extBut D.i1z) (c.b1.extBut s1.extBut D.l1z) hx fun g2 e s2 he=>K g2 e (fun b o c1 _ c3 _ q=>s2 _ _ c3 (s1.extBut _ _ c1 q)) he)
  |some x=>
   have hy:ys[k]?=none:=hend.resolve_left (by rw[hx];exact fun q=>nomatch q);refine ya (YJ (c.a1.extBut s1.extBut D.i1z) (c.b1.extBut s1.extBut D.l1z) hx fun g2 j1 s2=>yg (yg ?_));refine ya (ya (Yt ?_));show wpAny _ _ (Builtin.SmallTypes.nextOf (.ref i2) >>= _) _ _ _;exact ya (wpAny_nextOf_list_end hh ((c.a2.extBut s1.extBut D.i2z).extBut s2.extBut D.i12.symm) ((c.b2.extBut s1.extBut D.l2z).extBut s2.extBut D.l2i1) hy fun g4 e s4 he=>K g4 e (fun b o c1 c2 c3 c4 q=>s4 _ _ c4 (s2.extBut _ _ c3 (s1.extBut _ _ c1 q))) he)
theorem vm {z:Addr}{TI TO:Addr}{f0:Value}{f1:Bool}{Q:Option Value->Shared->Prop}(hz:Zl s.heap z TI TO f0 f1)(h:∀ A' E',wpAny (model prog w) A' (Builtin.«zip.__next__» ⟨[.ref z],[]⟩) (fun fin s'=>∃ v,fin=.done (.ret v)/\Q (some v) s') E' s) :
  wpAny (model prog w) A (pyNext (.ref z)) Q E s:=by
 have hT:s.TypeIs (.ref z) "zip" := ⟨_,hz,rfl⟩
 unfold pyNext;refine ya (wpAny_attempt (wpAny_callSpecial?_slot (name:=Str.ofString "__next__") hT F.slot_zip_next (wpAny_call_entry F.slot_zip_next hT F.entry_zip_next (YF (h _ _) (fun fin s' q=>?_) fun _ _ e=>e) (F.args_zip_next_1 _))));obtain⟨v,rfl,q⟩:=q;exact⟨v,rfl,yg q⟩
theorem Ua {z TI TO:Addr}{f0:Value}{f1:Bool}{Q:Option Value->Shared->Prop}(hz:Zl s.heap z TI TO f0 f1)(hh:A.handled=none)
  (h:∀ A' (Q':Fin->Shared->Prop) (E':Value->Shared->Prop),A'.handled=none->(∀ e s',(∃ o,s'.heap.get? e=some o/\o.cls=.type "StopIteration")->Q none s'->E' (.ref e) s')->wpAny (model prog w) A' (Builtin.«zip.__next__» ⟨[.ref z],[]⟩) Q' E' s) :
  wpAny (model prog w) A (pyNext (.ref z)) Q E s:=by
 have hT:s.TypeIs (.ref z) "zip" := ⟨_,hz,rfl⟩
 unfold pyNext;refine ya (wpAny_attempt (wpAny_callSpecial?_slot (name:=Str.ofString "__next__") hT F.slot_zip_next (wpAny_call_entry F.slot_zip_next hT F.entry_zip_next (h _ _ _ hh fun e s' ho q=>?_) (F.args_zip_next_1 _))));obtain⟨o,ho,hc⟩:=ho;exact ya (wpAny_isInstance (T:="StopIteration") (b:=true) ⟨o,ho,hc⟩ isSubtype_stop (yg q))
theorem cN {z TI TO:Addr}{f0:Value}{f1:Bool}{Q:Value->Shared->Prop}(hz:Zl s.heap z TI TO f0 f1)(h:Q (.ref z) s):wpAny (model prog w) A (pyIter (.ref z)) Q E s:=by
 have hT:s.TypeIs (.ref z) "zip" := ⟨_,hz,rfl⟩
 refine wpAny_pyIter_slot hT F.slot_zip_iter (wpAny_call_entry F.slot_zip_iter hT F.entry_zip_iter ?_ (F.args_zip_iter_1 _));show wpAny _ _ (ret (.ref z)) _ _ s;exact yg ⟨_,rfl,"zip", _,hT,F.slot_zip_next.lookup,h⟩
end
namespace ZK
theorem entry_ga:entryFor table "zip.__getattribute__" = some Builtin.«object.__getattribute__»:=
 entryFor_alias (id':="object.__getattribute__") (by kernel_rfl) (by first|rfl|decide +kernel|(unfold String.splitOn;simp +decide [String.splitOnAux])) (by decide +kernel) (by kernel_rfl)
theorem ga_none:typeLookup (.type "zip") "__getattr__" = pure none:=am_miss_of_fast (by kernel_rfl)
theorem keys_none:typeLookup (.type "zip") "keys" = pure none:=am_miss_of_fast (by kernel_rfl)
end ZK
theorem KS (z:Addr)(fs:Array Value)(u:Tok):Meets (Builtin.«object.__getattribute__» ⟨[.ref z,.str "keys" u],[]⟩) fun A R s=>s.heap.get? z=some {cls:=.type "zip", dict:=none,data:=.fields fs,slots:=#[]}/\raisesAttr (.ref z) "keys" A R s:=
 .of_wp fun prog w A R s h=>by
  obtain⟨hp,g,d,tk,os⟩:=s;obtain⟨q,hh,h⟩:=h;have hz:Heap.get? (Shared.heap ⟨hp,g,d,tk,os⟩) z=some {cls:=.type "zip", dict:=none,data:=.fields fs,slots:=#[]}:=q;have f1:=ZK.keys_none;have hT:Shared.TypeIs ⟨hp,g,d,tk,os⟩ (.ref z) "zip" := ⟨_,hz,rfl⟩
  wp_walk
  exact wpAny_raiseAttrError (show A.in1.handled=none from hh) (fun h' tk' e x=>h h' tk' e x) (by decide +kernel)
section
variable {prog:Program}{w:World}{A:Around}{E:Value->Shared->Prop}{s:Shared}
theorem ak {z:Addr}{fs:Array Value}{Q:Option Value->Shared->Prop}(hh:A.handled=none)(hz:s.heap.get? z=some {cls:=.type "zip", dict:=none,data:=.fields fs,slots:=#[]})
  (K:∀ g tk,(∀ b o,s.heap.get? b=some o->g.get? b=some o)->Q none {s with heap:=g,toks:=tk}):wpAny (model prog w) A (getAttr? (.ref z) "keys") Q E s:=by
 obtain⟨hp,g,d,tk,os⟩:=s;have q:Heap.get? (Shared.heap ⟨hp,g,d,tk+1,os⟩) z=some {cls:=.type "zip", dict:=none,data:=.fields fs,slots:=#[]}:=hz;have hT:Shared.TypeIs ⟨hp,g,d,tk+1,os⟩ (.ref z) "zip" := ⟨_,q,rfl⟩
 have f1:=sub_AttributeError;have f3:=F.slot_zip_getattribute.lookup;have f4:=F.slot_zip_getattribute.bind (.ref z);have f5:=ZK.ga_none;have C:∀ {A':Around} {E':Value->Shared->Prop} {Q':Value->Shared->Prop},A'.handled=none->(∀ h' tk' e,Heap.NewAttrErr hp h' e (.ref z) "keys" -> E' (.ref e) ⟨h',g,d,tk',os⟩)->wpAny (model prog w) A' (call (.builtin "zip.__getattribute__") [.ref z,.str "keys" tk]) Q' E' ⟨hp,g,d,tk+1,os⟩:=fun h1 h2=>
  call_meets F.slot_zip_getattribute hT ZK.entry_ga (F.args_zip_getattribute_2 _ _) (KS z fs tk) ⟨q,h1,h2⟩
 unfold getAttr? getAttrBy?;refine ya (wpAny_mkText (ya (wpAny_attempt ?_)));unfold getAttrBy;refine Yt (ya (wpAny_typeOf hT (ya (wpAny_of_eq f3 ?_))));show wpAny _ _ (if (onTheHeap (Value.type "zip")&&Value.builtin "zip.__getattribute__" == Value.builtin "object.__getattribute__")=true then _ else _) _ _ _;rw[yd (by decide)];unfold getAttrByItsOwn;refine ya (m:=hookBefore _) (yg (ya (wpAny_attempt (Yt ?_))));refine ya (m:=bindSpecial _ _) (wpAny_of_eq f4 (C hh fun h' tk' e x=>?_));obtain⟨t',u',he⟩:=x.there;have hE:Shared.TypeIs ⟨h',g,d,tk',os⟩ (.ref e) "AttributeError" := ⟨_,he,rfl⟩
 dsimp only;unfold getattributeRaised;refine ya (wpAny_isInstance hE f1 ?_);rw[ye rfl];refine ya (m:=hookBehind _ _) (wpAny_of_eq f5 ?_);unfold hookOrError;dsimp only
 wp_walk
 exact K _ _ x.keeps
end
namespace ZK
theorem entry_loop:entryFor table "dict.update.loop" = some Builtin.«dict.update.loop»:=entryFor_of_tree (by kernel_rfl)
theorem plain_loop:plainId "dict.update.loop" = true:=by decide +kernel
end ZK
section
variable {prog:Program}{w:World}{A:Around}{E:Value->Shared->Prop}{s:Shared}
theorem aK {T:Addr}{x y:Value}{Q:List Value->Shared->Prop}(h:IsPair s.heap T x y)(q:Q [x,y] s):wpAny (model prog w) A (Builtin.Dict.pairItems (.ref T)) Q E s:=by
 have hT:s.TypeIs (.ref T) "tuple" := ⟨_,h,rfl⟩
 unfold Builtin.Dict.pairItems;refine ya (wpAny_typeOf hT ?_);rw[ye (by decide)];obtain⟨hp,g,d,tk,os⟩:=s
 wp_walk
 exact q
def zO (h:Heap)(z TI TO i1 i2 l1 l2:Addr)(xs ys:Array Value)(k:Nat):Prop:=
 ∃ f0 f1,Zl h z TI TO f0 f1/\((f0=.none/\f1=false)∨∃ (T:Addr) (o:Obj),f0=rawInt T/\h.get? T=some o)/\ZipL h TI i1 i2 l1 l2 xs ys k/\∃ a b,IsPair h TO a b
theorem zO.next {z TI TO i1 i2 l1 l2:Addr}{xs ys:Array Value}{k:Nat}{x y:Value}{Q:Option Value->Shared->Prop}(D:ZipApart z TI TO i1 i2 l1 l2)(S:zO s.heap z TI TO i1 i2 l1 l2 xs ys k)(hx:xs[k]?=some x)(hy:ys[k]?=some y)
  (K:∀ g,zO g z TI TO i1 i2 l1 l2 xs ys (k+1)->IsPair g s.heap.objs.size x y->g.objs.size=s.heap.objs.size+1->(∀ b o,b≠z->b≠TO->b≠i1->b≠i2->s.heap.get? b=some o->g.get? b=some o)->Q (some (.ref s.heap.objs.size)) {s with heap:=g}) :
  wpAny (model prog w) A (pyNext (.ref z)) Q E s:=by
 obtain⟨f0,f1,hz,hf,c,a,b,ho⟩:=S;rcases hf with ⟨rfl,rfl⟩|⟨T,oT,rfl,hT⟩
 ·exact vm hz fun A' E'=>dS D hz c ho hx hy fun g z1 o1 c1 n1 sz fr=>K g ⟨_,_,z1,.inr ⟨_,_,rfl,n1⟩,c1,_,_,o1⟩ n1 sz fr
 ·refine vm hz fun A' E'=>dz D hz c hT hx hy fun g z1 c1 n1 sz fr=>K g ⟨_,_,z1,.inr ⟨T,?_⟩,c1,a,b,fr _ _ D.TOz D.TOi1 D.TOi2 ho⟩ n1 sz fun b o c1 _ c3 c4 e=>fr b o c1 c3 c4 e;by_cases e1:T=z
  ·subst e1;exact⟨_,rfl,z1⟩
  ·by_cases e2:T=i1
   ·obtain⟨o,h1,_⟩:=c1.a1;exact⟨o,rfl,e2▸h1⟩
   ·by_cases e3:T=i2
    ·obtain⟨o,h1,_⟩:=c1.a2;exact⟨o,rfl,e3▸h1⟩
    ·exact⟨oT,rfl,fr _ _ e1 e2 e3 hT⟩
theorem zO.fin {z TI TO i1 i2 l1 l2:Addr}{xs ys:Array Value}{k:Nat}{Q:Option Value->Shared->Prop}(hh:A.handled=none)(D:ZipApart z TI TO i1 i2 l1 l2)(S:zO s.heap z TI TO i1 i2 l1 l2 xs ys k)(hend:xs[k]?=none∨ys[k]?=none)
  (K:∀ g,(∀ b o,b≠z->b≠TO->b≠i1->b≠i2->s.heap.get? b=some o->g.get? b=some o)->Q none {s with heap:=g}) :
  wpAny (model prog w) A (pyNext (.ref z)) Q E s:=by
 obtain⟨f0,f1,hz,hf,c,a,b,ho⟩:=S;exact Ua hz hh fun A' Q' E' h1 h2=>eT h1 D hz hf c ho hend fun g e fr he=>h2 e _ he (K g fr)
theorem zO.put {h g:Heap}{d z TI TO i1 i2 l1 l2:Addr}{xs ys:Array Value}{k:Nat}(S:zO h z TI TO i1 i2 l1 l2 xs ys k)(hd:d∉[z,TI,TO,i1,i2,l1,l2])(e:∀ b o,b≠d->h.get? b=some o->g.get? b=some o)(hg:∃ o,g.get? d=some o):zO g z TI TO i1 i2 l1 l2 xs ys k:=by
 obtain⟨f0,f1,hz,hf,c,a,b,ho⟩:=S;simp only[yP,qc,or_false,not_or] at hd;obtain⟨d1,d2,d3,d4,d5,d6,d7⟩:=hd;refine⟨f0,f1,e _ _ (Ne.symm d1) hz,hf.imp id ?_,c.put (z:=z) (TO:=TO) fun b hb o=>e b o ?_,a,b,e _ _ (Ne.symm d3) ho⟩
 ·rintro⟨T,o,h1,h2⟩;by_cases hT:T=d
  ·subst hT;obtain⟨o',h3⟩:=hg;exact⟨T,o',h1,h3⟩
  ·exact⟨T,o,h1,e _ _ hT h2⟩
 ·rcases hb with rfl|rfl|rfl|rfl|rfl
  ·exact Ne.symm d2
  ·exact Ne.symm d4
  ·exact Ne.symm d5
  ·exact Ne.symm d6
  ·exact Ne.symm d7
def xJ {K:Type}[DecidableEq K]:List (K×Value)->List K->List Value->List (K×Value)
 |kvs,k::ks,y::ys=>xJ (stored kvs k y) ks ys
 |kvs,_,_=>kvs
theorem aH {K:Type}[DecidableEq K]{kvs:List (K×Value)}{k:K}{v:Value}:(stored kvs k v).length<=kvs.length+1:=by
 unfold stored;split
 ·simp
 ·simp
theorem Uw {K:Type}[DecidableEq K]{knd:KeyKind prog w K}{d z TI TO i1 i2 l1 l2:Addr}{xs ys:Array Value}{h0:Heap}{R:Result->Shared->Prop}(D:ZipApart z TI TO i1 i2 l1 l2)(hd:d∉[z,TI,TO,i1,i2,l1,l2])(hh:A.handled=none)(hz:xs.size=ys.size):∀ (ks:List K) (i:Nat) (kvs:List (K×Value)) (s:Shared),
  ks.length+i=xs.size->(∀ j k,ks[j]?=some k->∃ x,xs[i+j]?=some x/\knd.is k x=true)->kvs.length+ks.length<=sizeLine->s.heap.DictOf knd d kvs->zO s.heap z TI TO i1 i2 l1 l2 xs ys i->(∀ b o,b≠d->b≠z->b≠TO->b≠i1->b≠i2->h0.get? b=some o->s.heap.get? b=some o)->
  (∀ g tk,g.DictOf knd d (xJ kvs ks (ys.toList.drop i))->(∀ b o,b≠d->b≠z->b≠TO->b≠i1->b≠i2->h0.get? b=some o->g.get? b=some o)->R (.ok (.ret .none)) {s with heap:=g,toks:=tk})->
  codeAny (model prog w) A (.builtin "dict.update.loop" ⟨[.ref d,.ref z,rawInt i,.none],[]⟩) R s
 |[],i,kvs,s,hl,hk,hs,dd,S,fr,fin=>by
  refine codeAny_builtin ZK.entry_loop ?_;rw[Around.under_plainId ZK.plain_loop _];have hi:i=xs.size:=by simpa using hl
  refine ya (zO.fin (A:=A.in1) hh D S (.inl (Array.getElem?_eq_none_iff.mpr (by omega))) fun g fr2=>?_);refine ya (m:=Builtin.Dict.addKeywords d []) (yg (yg ?_));have e1:d≠z:=fun e=>hd (by simp[e]);have e2:d≠TO:=fun e=>hd (by simp[e]);have e3:d≠i1:=fun e=>hd (by simp[e]);have e4:d≠i2:=fun e=>hd (by simp[e]);exact fin g _ (dd.at fun o e=>fr2 d o e1 e2 e3 e4 e) fun b o a1 a2 a3 a4 a5 e=>fr2 b o a2 a3 a4 a5 (fr b o a1 a2 a3 a4 a5 e)
 |k::ks,i,kvs,s,hl,hk,hs,dd,S,fr,fin=>by
  refine codeAny_builtin ZK.entry_loop ?_;rw[Around.under_plainId ZK.plain_loop _];obtain⟨x,hx,kx⟩:=hk 0 k rfl;rw[Nat.add_zero] at hx;have hi:i<xs.size:=by rw[yI] at hl;omega
  have hy:ys[i]?=some ys[i]:=Array.getElem?_eq_getElem (by omega);have e1:d≠z:=fun e=>hd (by simp[e]);have e2:d≠TO:=fun e=>hd (by simp[e]);have e3:d≠i1:=fun e=>hd (by simp[e]);have e4:d≠i2:=fun e=>hd (by simp[e]);refine ya (zO.next (A:=A.in1) D S hx hy fun g S1 n1 sz fr1=>?_);refine ya (Yt (ya (wpAny_tryCatch (aK n1 ?_))));refine Yt (wpAny_dictSet_pairs kx (dd.at fun o e=>fr1 d o e1 e2 e3 e4 e) (fun g2 d2 s2=>?_) (by rw[yI] at hs;omega));refine yg ⟨plainId_quiet ZK.plain_loop _,?_⟩;have ei:rawInt ((i:Int)+1)=rawInt ((i+1:Nat):Int):=by simp
  show codeAny _ _ (.builtin "dict.update.loop" ⟨[.ref d,.ref z,rawInt ((i:Int)+1),.none],[]⟩) _ _;rw[ei];refine Uw D hd hh hz ks (i+1) (stored kvs k ys[i]) _ (by rw[yI] at hl;omega) (fun j k' e=>?_) ?_ d2 (S1.put hd (fun b o hb e=>s2.extBut _ _ hb e) (let ⟨o,_,_,e,_⟩:=d2;⟨o,e⟩)) (fun b o a1 a2 a3 a4 a5 e=>s2.extBut _ _ a1 (fr1 b o a2 a3 a4 a5 (fr b o a1 a2 a3 a4 a5 e))) fun g3 tk3 d3 f3=>?_
  ·obtain⟨x',h1,h2⟩:=hk (j+1) k' (by simpa using e);exact⟨x',by rw[show i+1+j=i+(j+1) by omega];exact h1,h2⟩
  ·have:=aH (kvs:=kvs) (k:=k) (v:=ys[i]);rw[yI] at hs;omega
  ·refine fin g3 tk3 ?_ f3;rw[List.drop_eq_getElem_cons (by rw[Array.length_toList];omega)];exact d3
end
section
variable {prog:Program}{w:World}{A:Around}{E:Value->Shared->Prop}{s:Shared}
theorem UP {K:Type}[DecidableEq K]:∀ {ks:List K} {us:List Value} {kvs:List (K×Value)},ks.length=us.length->(kvs.map (·.1)++ks).Nodup->xJ kvs ks us=kvs++ks.zip us
 |[],us,kvs,h,_=>by simp[xJ]
 |k::ks,[],kvs,h,_=>by simp at h
 |k::ks,u::us,kvs,h,n=>by
  have hk:(kvs.any fun kv=>decide (kv.1=k))=false:=by
   rw[List.any_eq_false];intro p hp;have:p.1≠k:=fun e=>by
    have:=(qh.mp n).2.2 p.1 (yx.mpr ⟨p,hp,rfl⟩) k (by simp);exact this e
   simpa using this
  have e:stored kvs k u=kvs++[(k,u)]:=by unfold stored;rw[yd (by rw[hk];exact yw)]
  rw[xJ,e,UP (by simpa using h) (by simpa using n)];simp
theorem wB {K:Type}[DecidableEq K]{knd:KeyKind prog w K}{z TI TO i1 i2 l1 l2:Addr}{xs ys:Array Value}{ks:List K}{Q:Value->Shared->Prop}(D:ZipApart z TI TO i1 i2 l1 l2)(hh:A.handled=none)(hz:xs.size=ys.size)(hl:ks.length=xs.size)(hn:ks.Nodup)(hs:ks.length<=sizeLine)(hk:∀ (j:Nat) (k:K),ks[j]?=some k->∃ x,xs[j]?=some x/\knd.is k x=true)
  (S:zO s.heap z TI TO i1 i2 l1 l2 xs ys 0)
  (fin:∀ g tk,g.DictOf knd s.heap.objs.size (ks.zip ys.toList)->(∀ b o,b≠z->b≠TO->b≠i1->b≠i2->s.heap.get? b=some o->g.get? b=some o)->Q (.ref s.heap.objs.size) {s with heap:=g,toks:=tk}) :
  wpAny (model prog w) A (call (.type "dict") [.ref z]) Q E s:=by
 have hzz:z<s.heap.objs.size:=by obtain⟨_,_,h,_⟩:=S;exact yj h
 have hd:s.heap.objs.size∉[z,TI,TO,i1,i2,l1,l2]:=by
  obtain⟨_,_,h,_,c,_,_,ho⟩:=S;have a1:=yj h;have a2:=yj c.pr;have a3:=yj ho;obtain⟨_,b1,_⟩:=c.a1;obtain⟨_,b2,_⟩:=c.a2;obtain⟨_,b3,_⟩:=c.b1;obtain⟨_,b4,_⟩:=c.b2;have a4:=yj b1;have a5:=yj b2;have a6:=yj b3;have a7:=yj b4;intro e;simp only[yP,qc,or_false] at e;rcases e with e|e|e|e|e|e|e
  all_goals first|exact qN a1 e|exact qN a2 e|exact qN a3 e|exact qN a4 e|exact qN a5 e|exact qN a6 e|exact qN a7 e
 refine callType_codes (Q₁:=fun obj s₁=>obj=.ref s.heap.objs.size/\s₁={s with heap:=s.heap.push {cls:=.type "dict", data:=.dict #[]}}) F.kt_called_dict (F.kt_typeCall_dict_1 _) F.entry_dict_init (kt_code_dict_new _ ⟨rfl,rfl⟩) fun obj s₁ h₁=>?_;obtain⟨rfl,rfl⟩:=h₁;have hT:Shared.TypeIs {s with heap:=s.heap.push {cls:=.type "dict", data:=.dict #[]}} (.ref s.heap.objs.size) "dict" := ⟨_,yu _ rfl,rfl⟩
 refine⟨hT,F.args_dict_init_2 _ _,?_⟩;have S1:zO (s.heap.push {cls:=.type "dict", data:=.dict #[]}) z TI TO i1 i2 l1 l2 xs ys 0:=S.put hd (fun b o _ e=>yk _ e) ⟨_,yu _ rfl⟩;obtain⟨f0,f1,hzz1,_⟩:=id S1;have tz:Shared.TypeIs {s with heap:=s.heap.push {cls:=.type "dict", data:=.dict #[]}} (.ref z) "zip" := ⟨_,hzz1,rfl⟩
 unfold Builtin.«dict.__init__»;refine ya (m:=Builtin.Dict.selfAndRest "__init__" _) ?_;unfold Builtin.Dict.selfAndRest;refine ya (m:=Builtin.Dict.notOrdered "__init__" _) ?_;unfold Builtin.Dict.notOrdered;rw[ye (by decide +kernel)];refine ya (wpAny_typeOf hT ?_);rw[yd (by decide)];refine yg ?_;refine ya (m:=Builtin.Dict.addrOf (.ref s.heap.objs.size)) (yg (yg ?_));show wpAny _ _ (Builtin.Dict.updateFrom "dict.__init__" s.heap.objs.size (.ref z) [] .none) _ _ _;unfold Builtin.Dict.updateFrom;refine ya (wpAny_typeOf tz ?_);rw[ye (by decide)];refine ya (ak (show A.in1.in1.handled=none from hh) hzz1 fun g tk kp=>?_);rw[ye (show(none:Option Value).isNone=true from rfl)];have S2:zO g z TI TO i1 i2 l1 l2 xs ys 0:=S1.put hd (fun b o _ e=>kp b o e) ⟨_,kp _ _ (yu _ rfl)⟩;obtain⟨f0',f1',hzz2,_⟩:=id S2;refine ya (wpAny_rule (ya (cN hzz2 (yg ⟨plainId_quiet ZK.plain_loop _,?_⟩))));have d0:Heap.DictOf knd g s.heap.objs.size []:=Heap.DictOf.at (Heap.DictOf.new ..) fun o e=>kp _ o e;refine Uw (A:=A.in1) (knd:=knd) (h0:=s.heap) D hd hh hz ks 0 [] _ (by simpa using hl) (fun j k e=>by rw[YV];exact hk j k e) (by simpa using hs) d0 S2 (fun b o _ _ _ _ _ e=>kp _ _ (yk _ e)) fun g3 tk3 d3 f3=>?_;refine⟨rfl,fin g3 tk3 ?_ fun b o a1 a2 a3 a4 e=>f3 b o (yQ (yj e)) a1 a2 a3 a4 e⟩;rw[List.drop_zero,UP (by rw[hl,hz,Array.length_toList]) (by simpa using hn),List.nil_append] at d3;exact d3
end
end PySem
namespace L2
open PySem PySem.Spec PyProof.Rows
section
variable {P:Program}{w:World}{H:Hp}{h:Heap}{a:Addr}{o:HO}
theorem qP.there (x:qP P w H h a o):∃ ob,h.get? a=some ob:=by
 cases o with
 |lst xs=>obtain⟨_,_,_,_,e⟩:=x;exact⟨_,e⟩
 |tup xs=>obtain⟨_,_,_,ob,e,_⟩:=x;exact⟨ob,e⟩
 |dK kvs=>obtain⟨_,_,_,_,o,_,_,e,_⟩:=x;exact⟨o,e⟩
 |dT kvs=>obtain⟨_,_,_,_,o,_,_,e,_⟩:=x;exact⟨o,e⟩
 |set S n=>obtain⟨o,_,_,_,e,_⟩:=x;exact⟨o,e⟩
 |ins C dx fs=>obtain⟨_,_,_,e,_⟩:=x;exact⟨_,e⟩
 |own y=>obtain⟨u,e⟩:=x;exact⟨u,e⟩
 |xd fs=>obtain⟨_,⟨u,_,_,e,_⟩,_⟩:=x;exact⟨u,e⟩
 |rng lo hi=>obtain⟨_,_,_,e⟩:=x;exact⟨_,e⟩
 |frz ob u=>obtain⟨e,_⟩:=x;exact⟨_,e⟩
 |tbl ps=>
  have e:h.get? a=some _:=x;exact⟨_,e⟩
 |met f y=>
  have e:h.get? a=some _:=x;exact⟨_,e⟩
 |ext φ=>obtain⟨_,⟨u,e⟩,_⟩:=x;exact⟨u,e⟩
end
section
variable {P:Program}{w:World}{outer:List Env}{H H':Hp}{s s':Shared}{ea:Addr}{cls:Value}{B:Heap}
end
section
variable {X:Cx}{pins:List (Addr×Obj)}{σ:St}{H:Hp}{s:Shared}
end
section
variable {P:Program}{w:World}{K:W.Frag}{mg:Str->Option Value}{base:Heap}{N:List Str}{qual:Str}{scope:Scope}{f:Addr}{cd:Value}{A:Around}{outer:List Env}{s:Shared}{H:Hp}{E:XK}{CX:CXT}
end
section
variable {X:Cx}
end
section
variable {X:Cx}
end
def AE (a:Addr)(cls:Value):HO:=.ext fun h=>∃ o vs,h.get? a=some o/\o.cls=cls/\o.data=.fields vs
section
variable {X:Cx}{pins:List (Addr×Obj)}{σ:St}{H:Hp}{s:Shared}
end
section
variable {X:Cx}{pins:List (Addr×Obj)}{σ:St}{H:Hp}{s:Shared}
end
section
variable {X:Cx}
end
open PySem.Calls PySem.W PySem.Builtin PySem.Builtin.ObjectAttr PySem.Builtin.Getset_descriptor
section
variable {prog:Program}{w:World}{A:Around}{E:Value->Shared->Prop}{K:W.Frag}{x C:Addr}{h:Heap}{g:Array GenState}{d:Drawn}{t:Nat}{os:OsState}
end
section
variable {X:Cx}
theorem nq:OpR X (binaryOp .Mult) (rI IntMulOk fun i j=>.int (i*j)):=opI fun _ _ _ _ _ _ _ hc q=>mul_int q hc
end
structure Pyl (X:Cx):Prop where
 tree:X.prog.given.tree=none
 fr:∃ env l,X.stack=env::l/\env.scope.isGenerator=false/\env.scope.isCoroutine=false/\env.builtins=builtinsNs/\env.globals=mainGlobals
 dp:X.A.depth+Builtin.pylongFrames<recursionLimit
theorem Pyl.room {X:Cx}(p:Pyl X){pins:List (Addr×Obj)}{σ:St}{H:Hp}{s:Shared}(I:Inv X pins σ H s):PylongRoom (model X.prog X.w) X.A s:=by
 obtain⟨env,l,h1,h2,h3,h4,h5⟩:=p.fr;exact PylongRoom.of I.nolimit p.dp (SeerAt.of (I.ok.mod.seer.keeps I.bk) p.tree (I.ok.frames.trans (congrArg some h1)) h2 h3 h4 h5)
section
variable {X:Cx}
theorem d8 (p:Pyl X):OpR X (binaryOp .FloorDiv) (rI (fun _ j=>j≠0) fun i j=>.int (i.fdiv j)):=by
 intro pins s σ H x y v u Q I rx ry h;obtain⟨i,j,rfl,rfl,hc,q⟩:=h;obtain⟨t,rfl⟩:=rx;obtain⟨t',rfl⟩:=ry;exact floordiv_int hc ⟨.int (i.fdiv j),H,I.tok _,⟨_,rfl⟩,q⟩ (Or.inr (p.room I))
end
def Yn (K:W.Frag)(mg:Str->Option Value)(x:Str)(st:Stmt)(ps:List Str):Prop:=∃ f fd,Fun K x x st f fd/\mg x=some (.ref f)/\zo K fd ps []
def OkF (P:Program)(w:World)(K:W.Frag)(mg:Str->Option Value)(base:Heap)(CX:CXT)(k:Nat)(x:Str)(ps:List Str)(sp:Sp):Prop:=
 ∃ f fd,FnOk P w K mg base CX k f fd ps sp/\mg x=some (.ref f)/\W.keepIn K (.ref f)=true/\zo K fd ps []
theorem Y0 {K:W.Frag}{h:Heap}{mg:Str->Option Value}(X:K.In h)(G:h.Ns mainGlobals mg){x:Str}{st:Stmt}(ps:List Str){f:Addr}{oc:Value}{od an:Option Addr}{osl:Array (Option Value)}{kV doc pm cdv ct:Value}
  (a:W.nsIn K mainGlobals x=some (some (.ref f))) (l:K.lookup f=some ⟨oc,od,.func (W.fnOf x x (jg st) (YT st) (yi st) .none kV doc pm an cdv ct),osl⟩)
  (c:W.codeIn K cdv x=true) (k:W.keepIn K (.ref f)=true)
  (hb:∀ (kV doc pm:Value) (an:Option Addr) (cdv ct:Value) (us:List Value),us.length=ps.length->bindArgs (W.fnOf x x (jg st) (YT st) (yi st) .none kV doc pm an cdv ct) ⟨us,[]⟩=pure (ps.zip us)):Yn K mg x st ps:=
 have F:=Wp (st:=st) l c k
 ⟨f,_,F,W.mg_of X G a,F.binds hb⟩
section
variable {P:Program}{w:World}{K:W.Frag}{mg:Str->Option Value}{base:Heap}
theorem Yn.ok {x:Str}{st:Stmt}{N ps:List Str}{k:Nat}{sp:Sp}(d:Yn K mg x st ps)(S:FnScope N ps (yi st))(len:∀ vs H Q E,sp vs H Q E->vs.length=ps.length)
  (hbody:∀ (f:Addr) (cdv:Value) (A:Around) (outer:List Env) (s:Shared) (H:Hp) (vs:List V) (Q:VK) (E:XK),Room k (A.deeper (envOfC x (yi st) s.heap.objs.size f cdv))->sp vs H Q E->
   ∃ t,PSs (uv CX0 P w K mg base N x (yi st) f cdv A outer s H E).nox (YT st) t/\t {nx:=fun _ H'=>Q .non H',rt:=Q} (start N vs) H):OkF P w K mg base CX0 (k+1) x ps sp:=by
 obtain⟨f,fd,F,m,b⟩:=d;exact⟨f,fd,F.ok S len fun cdv A outer s H vs Q E hr h=>hbody f cdv A outer s H vs Q E hr h,m,F.kp,b⟩
end
section
variable {X:Cx}{x:Str}{ps:List Str}{sp:Sp}{k:Nat}{p pos:Pos}{e:Expr}{es:List Expr}{t:TA}
theorem e6 (o:OkF X.prog X.w X.K X.mg X.base CX0 k x ps sp)(hr:Room k X.A)(hg:Gl X x)(ha:PA X (e::es) t)(hdb:(x==("__debug__" : Str))=false:=by decide)
  (he:starEach (e::es) X.env=(false,eval e X.env)::starEach es X.env:=by rfl) (hpl:(backTo pos (starEach es X.env)).any (·.1)=false:=by rfl):PE X (.Call (.Name x p) (e::es) [] pos) (nB sp [] E0 t):=by
 obtain⟨f,fd,F,m,kp,b⟩:=o;exact lA F hr hg m kp b .nil kJ ha hdb he hpl
end
theorem KN {CX:CXT}{P:Program}{w:World}{K:W.Frag}{mg:Str->Option Value}{base:Heap}{N:List Str}{qual:Str}{scope:Scope}{f:Addr}{cd:Value}{A:Around}{outer:List Env}{s:Shared}{H:Hp}{E:XK}{k:Nat}
  (ht:P.given.tree=none) (hg:scope.isGenerator=false) (hc:scope.isCoroutine=false) (hr:Room k (A.deeper (envOfC qual scope s.heap.objs.size f cd))) (hk:32<=k) :
  Pyl (uv CX P w K mg base N qual scope f cd A outer s H E):=
 ⟨ht,⟨_,_,rfl,hg,hc,rfl,rfl⟩,by have:=hr.dp;show(A.deeper _).depth+100<_;omega⟩
theorem Pyl.nox {X:Cx}(p:Pyl X):Pyl X.nox:=⟨p.tree,p.fr,p.dp⟩
theorem oy {P:Program}{w:World}{K:W.Frag}{h:Heap}{mg:Str->Option Value}{n:Nat}{sp:Sp}(X:K.In h)(G:h.Ns mainGlobals mg){x y:Str}{st:Stmt}{fa f:Addr}{oc:Value}{od an:Option Addr}{osl:Array (Option Value)}{kV doc pm cdv ct:Value}(hfa:mg x=some (.ref fa))
  (a:W.nsIn K mainGlobals x=some (some (.ref f))) (l:K.lookup f=some ⟨oc,od,.func (W.fnOf x x (jg st) (YT st) (yi st) .none kV doc pm an cdv ct),osl⟩)
  (c:W.codeIn K cdv x=true) (k:W.keepIn K (.ref f)=true)
  (hb:∀ v:Value,bindArgs (W.fnOf x x (jg st) (YT st) (yi st) .none kV doc pm an cdv ct) ⟨[v],[]⟩=pure [(y,v)])
  (ok:∀ (fd:FuncData) (base:Heap),K.In base->base.Ns mainGlobals mg->Fun K x x st fa fd->FnOk P w K mg base CX0 n fa fd [y] sp) :
  ∃ fd:FuncData,(∀ (s:Shared) (u:Value),BindsTo s fd ⟨[u],[]⟩ [(y,u)])/\∀ base:Heap,K.In base->base.Ns mainGlobals mg->FnOk P w K mg base CX0 n fa fd [y] sp:=by
 have e:=hfa.symm.trans (W.mg_of X G a);cases e;exact⟨_,fun s u=>.of_eq (hb u),fun base kb nb=>ok _ base kb nb (Wp (st:=st) l c k)⟩
def jw:List (Str×NameKind)->List (Str×Addr)->List (Str×Addr)->List (Str×Addr)
 |[],_,acc=>acc
 | (n,k)::r,cells,acc=>if k==.free then jw r cells ((n,(cells.lookup n).getD 0)::acc) else jw r cells acc
theorem Zy {cells:List (Str×Addr)}{x:Str}{c:Addr}:∀ {names:List (Str×NameKind)} {acc:List (Str×Addr)},(∀ y∈names,y.2=.free->(cells.lookup y.1).isSome=true)->(jw names cells acc).lookup x=some c->
  acc.lookup x=some c∨cells.lookup x=some c
 |[],_,_,h=>.inl h
 | (n,k)::r,acc,hf,h=>by
  have hr:∀ y∈r,y.2=.free->(cells.lookup y.1).isSome=true:=fun y hy=>hf y (yc _ hy);unfold jw at h;by_cases hk:(k==NameKind.free)=true
  ·rw[ye hk] at h;rcases Zy hr h with q|q
   ·by_cases hx:(x==n)=true
    ·rw[Yd,hx] at q;have e:x=n:=beq_iff_eq.mp hx;subst e;have z:=hf (x,k) (by simp) (beq_iff_eq.mp hk);obtain⟨a,ha⟩:=jn.mp z;have ha':cells.lookup x=some a:=ha;rw[ha'] at q
     right
     rw[ha'];exact q
    ·rw[Yd,Qs.mpr hx] at q;exact .inl q
   ·exact .inr q
  ·rw[yd hk] at h;exact Zy hr h
theorem v9 {cells:List (Str×Addr)}{x:Str}:∀ {names:List (Str×NameKind)} {acc:List (Str×Addr)},(∃ c,acc.lookup x=some c)->∃ c,(jw names cells acc).lookup x=some c
 |[],_,h=>h
 | (n,k)::r,acc,⟨c,h⟩=>by
  unfold jw;by_cases hk:(k==NameKind.free)=true
  ·rw[ye hk];refine v9 ?_;by_cases hx:(x==n)=true
   ·exact⟨_,by rw[Yd,hx]⟩
   ·exact⟨c,by rw[Yd,Qs.mpr hx];exact h⟩
  ·rw[yd hk];exact v9 ⟨c,h⟩
theorem ZN {cells:List (Str×Addr)}{x:Str}:∀ {names:List (Str×NameKind)} {acc:List (Str×Addr)},(x,NameKind.free)∈names->∃ c,(jw names cells acc).lookup x=some c
 | (n,k)::r,acc,h=>by
  unfold jw;rcases yP.mp h with e|h
  ·cases e;rw[ye (by decide)];exact v9 ⟨_,by rw[Yd,beq_self_eq_true]⟩
  ·by_cases hk:(k==NameKind.free)=true
   ·rw[ye hk];exact ZN h
   ·rw[yd hk];exact ZN h
theorem Zw {env:Env}:∀ (names:List (Str×NameKind)) (acc:List (Str×Addr)),(∀ y∈names,y.2=.free->(env.cells.lookup y.1).isSome=true)->
  (forIn names acc fun (y:Str×NameKind) (r:List (Str×Addr))=>if (y.2==NameKind.free)=true then (do let a ←cellOf env y.1;pure (ForInStep.yield ((y.1,a)::r))) else (pure (ForInStep.yield r):Sem (ForInStep (List (Str×Addr)))))=pure (jw names env.cells acc)
 |[],acc,_=>rfl
 | (n,k)::r,acc,hf=>by
  have hr:∀ y∈r,y.2=.free->(env.cells.lookup y.1).isSome=true:=fun y hy=>hf y (yc _ hy);rw[jV];unfold jw;by_cases hk:(k==NameKind.free)=true
  ·obtain⟨a,ha⟩:=jn.mp (hf (n,k) (by simp) (beq_iff_eq.mp hk));have ha':env.cells.lookup n=some a:=ha;rw[ye hk];dsimp only;rw[ye hk,ha'];have e:cellOf env n=pure a:=by unfold cellOf;rw[ha']
   rw[e];exact Zw r _ hr
  ·rw[yd hk,yd hk];exact Zw r _ hr
theorem VE {sc:Scope}{env:Env}(hf:∀ y∈sc.names,y.2=.free->(env.cells.lookup y.1).isSome=true):closureFor sc env=pure (jw sc.names env.cells []):=by
 unfold closureFor;have h:=Zw (env:=env) sc.names [] hf;dsimp only;have e:=congrArg (fun t:Sem (List (Str×Addr))=>t >>= fun r=>pure r) h;exact e
structure CArg where
 C:Addr
 s₀:Shared
 H₀:Hp
 fp:List Addr
def Cx.comp (X:Cx)(sc:Scope)(N:List Str)(c:CArg):Cx:=
 {X with N:=N,s₀:=c.s₀,H₀:=c.H₀,env:=compEnvC sc (jw sc.names X.env.cells []) c.C X.env,outer:=X.stack,stack:=X.stack,ex:=c.fp,fn:=fun _=>false,pn:=[],xe:=fun _ _=>False}
structure CompOk (SX sc:Scope)(XN N:List Str)(nt:Nat)(caps:List Nat):Prop where
 kind:sc.kind=.function
 nocell:∀ y∈sc.names,y.2≠.cell
 loc:∀ y∈sc.names,y.2=.local->sc.names.lookup y.1=some .local
 free:∀ y∈sc.names,y.2=.free->SX.names.lookup y.1=some .cell∨SX.names.lookup y.1=some .free
 len:N.length=nt+caps.length
 cap:((List.range caps.length).all fun j=>match N[nt+j]?,XN[caps.getD j 0]? with
  |some x,some y=>x==y&&sc.names.lookup x==some .free
  |_,_=>false)=true
theorem ZF {names:List (Str×NameKind)}{x:Str}{k:NameKind}(h:names.lookup x=some k):(x,k)∈names:=PySem.mem_of_lookup h
theorem ze {env:Env}:∀ {names:List (Str×NameKind)} {x:Str} {k:NameKind},
  (names.map fun (n,k)=>if (k==NameKind.free&&env.scope.kind==.function&&env.kindOf n==some .cell)=true then (n,NameKind.cell) else (n,k)).lookup x=some k->names.lookup x=some k∨(k=.cell/\names.lookup x=some .free)
 |[],_,_,h=>by simp at h
 | (n,k0)::r,x,k,h=>by
  rw[yy] at h;by_cases hx:(x==n)=true
  ·by_cases hc:(k0==NameKind.free&&env.scope.kind==.function&&env.kindOf n==some .cell)=true
   ·dsimp only at h;rw[ye hc,Yd,hx] at h;cases h
    right
    refine⟨rfl,?_⟩;rw[Yd,hx];simp only[Yr,beq_iff_eq] at hc;rw[hc.1.1]
   ·dsimp only at h;rw[yd hc,Yd,hx] at h
    left
    rw[Yd,hx];exact h
  ·have hx':=Qs.mpr hx;have e:∀ q:Str×NameKind,q.1=n->List.lookup x (q::(r.map fun (n,k)=>if (k==NameKind.free&&env.scope.kind==.function&&env.kindOf n==some .cell)=true then (n,NameKind.cell) else (n,k)))=List.lookup x (r.map fun (n,k)=>if (k==NameKind.free&&env.scope.kind==.function&&env.kindOf n==some .cell)=true then (n,NameKind.cell) else (n,k)):=by
    intro q hq;obtain⟨a,b⟩:=q;dsimp only at hq;subst hq;rw[Yd,hx']
   rw[e _ (by dsimp only;split <;> rfl)] at h;rcases ze h with z|z
   ·left;rw[Yd,hx'];exact z
   ·right;refine⟨z.1,?_⟩;rw[Yd,hx'];exact z.2
theorem ZC {env:Env}:∀ {names:List (Str×NameKind)} {x:Str},names.lookup x=some .free->
  (names.map fun (n,k)=>if (k==NameKind.free&&env.scope.kind==.function&&env.kindOf n==some .cell)=true then (n,NameKind.cell) else (n,k)).lookup x=some .cell ∨
  (names.map fun (n,k)=>if (k==NameKind.free&&env.scope.kind==.function&&env.kindOf n==some .cell)=true then (n,NameKind.cell) else (n,k)).lookup x=some .free
 |[],_,h=>by simp at h
 | (n,k0)::r,x,h=>by
  rw[yy];by_cases hx:(x==n)=true
  ·rw[Yd,hx] at h;cases h;dsimp only;by_cases hc:(NameKind.free==NameKind.free&&env.scope.kind==.function&&env.kindOf n==some .cell)=true
   ·left;rw[ye hc,Yd,hx]
   ·right;rw[yd hc,Yd,hx]
  ·have hx':=Qs.mpr hx;rw[Yd,hx'] at h;dsimp only;split
   ·rw[Yd,hx'];exact ZC h
   ·rw[Yd,hx'];exact ZC h
theorem cB {prog:Program}{w:World}{A:Around}{R:Result->Shared->Prop}{s:Shared}{elt target iter:Expr}{ifs:List Expr}{scope:Scope}{pos:Pos}{it acc:Value}{env:Env}(J:Nat->Shared->Prop)
  (turn:∀ n s,J n s->wpAny (model prog w) A (pyNext it) (fun r s₁=>match r with
   |none=>R (.ok .next) s₁
   |some v=>wpAny (model prog w) A (letOwnedTupleGo target it v) (fun _ s1'=>wpAny (model prog w) A (assign target env v) (fun _ s₂=>
     wpAny (model prog w) A (forIn ifs true fun c r=>if r=true then do let ok ←isTrue c env (eval c env);pure (ForInStep.yield ok) else pure (ForInStep.yield r)) (fun ok s₃=>
      if ok=true then wpAny (model prog w) A (eval elt env) (fun x s₄=>wpAny (model prog w) A (call (.builtin "list.append") [acc,x]) (fun _ s₅=>∃ m,m<n/\J m s₅) (fun _ _=>False) s₄) (fun _ _=>False) s₃
      else ∃ m,m<n/\J m s₃) (fun _ _=>False) s₂) (fun _ _=>False) s1') (fun _ _=>False) s₁) (fun _ _=>False) s)
  (n:Nat) (h:J n s):codeAny (model prog w) A (.compLoop (.ListComp elt [⟨target,iter,ifs,0⟩] scope pos) 0 it acc env) R s:=by
 refine codeAny_loop rfl J (fun n s hJ=>?_) n h;show wpAny _ A ((compTurn (.ListComp elt [⟨target,iter,ifs,0⟩] scope pos) 0 it acc env).onRaise (fun x=>do noteFrame x env;theTreesLotGoes x)) _ _ s;refine wpAny_noted ?_;rw[compTurn_list];refine ya (wpAny_standAt (ya (YF (turn n s hJ) (fun r s₁ h₁=>?_) fun _ _ z=>z.elim)));cases r with
 |none=>exact yg h₁
 |some v=>
  refine ya (YF h₁ (fun _ s1' h1'=>?_) fun _ _ z=>z.elim);refine ya (YF h1' (fun _ s₂ h₂=>?_) fun _ _ z=>z.elim);refine ya (YF h₂ (fun ok s₃ h₃=>?_) fun _ _ z=>z.elim);cases ok with
  |false=>exact yg ⟨rfl,h₃⟩
  |true=>
   refine ya (ya (YF h₃ (fun x s₄ h₄=>?_) fun _ _ z=>z.elim));refine ya (YF h₄ (fun _ s₅ h₅=>?_) fun _ _ z=>z.elim);exact yg (yg ⟨rfl,h₅⟩)
section
variable {X:Cx}{pins:List (Addr×Obj)}{σ:St}{H:Hp}{s:Shared}{sc:Scope}{N XN:List Str}{nt:Nat}{caps:List Nat}{SX:Scope}
def ua (nt:Nat)(caps:List Nat)(σ:St):St:=List.replicate nt none++caps.map fun i=>σ.getD i none
theorem CompOk.hf (S:CompOk SX sc XN N nt caps)(I:Inv X pins σ H s)(hX:X.env.scope=SX):∀ y∈sc.names,y.2=.free->(X.env.cells.lookup y.1).isSome=true:=fun y hy hk=>by
 have q:=S.free y hy hk;rw[←hX] at q;obtain⟨c,e⟩:=I.ok.has y.1 q;rw[e];rfl
theorem Inv.enter (S:CompOk SX sc XN N nt caps)(hX:X.env.scope=SX)(hN:X.N=XN)(I:Inv X pins σ H s){fp:List Addr}(hf:∀ b∈fp,k7 X pins H b)(hlt:∀ b∈fp,b<s.heap.objs.size){h':Heap}{t':Nat}{m':Str->Option Value}
  (hn:h'.Ns s.heap.objs.size m') (hk:∀ b o,s.heap.get? b=some o->h'.get? b=some o):Inv (X.comp sc N ⟨s.heap.objs.size,s,H,fp⟩) pins (ua nt caps σ) H {s with heap:=h',toks:=t'}:=by
 have hfr:=S.hf I hX;have sub:∀ x c,(jw sc.names X.env.cells []).lookup x=some c->X.env.cells.lookup x=some c:=fun x c e=>by
  rcases Zy hfr e with q|q
  ·cases q
  ·exact q
 have frs_lt:∀ b∈frs X.stack,b<s.heap.objs.size:=fun b hb=>by
  obtain⟨_,o,e,_⟩:=I.stack.mem hb;exact yj e
 have cells_lt:∀ x c,X.env.cells.lookup x=some c->c<s.heap.objs.size:=fun x c e=>by
  obtain⟨v,z⟩:=I.cell x c e;exact z.lt
 have offS:∀ b,b≠X.env.locals->b∉X.fs->b∉frs X.stack:=fun b h1 h2 z=>by
  rcases yP.mp (I.stkSub b z) with q|q
  ·exact h1 q
  ·exact h2 q
 have hex:∀ x,((relabel sc X.env).names.lookup x=some .cell∨(relabel sc X.env).names.lookup x=some .free)->∃ c,(jw sc.names X.env.cells []).lookup x=some c:=fun x hx=>by
  have fr:sc.names.lookup x=some .free:=by
   rcases hx with hx|hx
   ·rcases ze (names:=sc.names) hx with z|z
    ·exact absurd rfl (S.nocell _ (ZF z))
    ·exact z.2
   ·rcases ze (names:=sc.names) hx with z|z
    ·exact z
    ·cases z.1
  exact ZN (ZF fr)
 refine⟨⟨I.ok.mod,S.kind,I.ok.glob,I.ok.blt,yo _,fun x y c e1 e2=>I.ok.inj x y c (sub x c e1) (sub y c e2),hex,fun x c e=>(by cases e),I.ok.hd,I.ok.frames,.inl rfl,fun b hb=>?_,fun b o e=>I.bs b o e,Ye I.ok.bsz I.sz,fun b o e hb=>?_,fun b hb=>?_,I.stack,I.stkFree⟩,
  rfl,I.bare,Un.kept hk,⟨m',hn,fun i x v e1 e2 e3=>?_⟩,fun x c e=>?_,I.hok.fresh (yo _),fun x c e=>I.freeC x c (sub x c e),fun p hp=>?_,I.hok.kept hk,?_⟩
 ·obtain⟨f0,f1,f2,f3,f4,f5⟩:=hf b hb;refine⟨?_,fun x c e=>f4 x c (sub x c e)⟩;exact yQ (hlt b hb)
 ·obtain⟨f0,f1,f2,f3,f4,f5⟩:=hf b hb;rcases f3 with z|z
  ·exact I.ok.noex b o e z
  ·exact absurd (yE (yj e) (Ye I.ok.bsz z)) (Qv _)
 ·obtain⟨f0,f1,f2,f3,f4,f5⟩:=hf b hb;exact offS b f1 f2
 ·-- a name that is taken over
  unfold ua at e2;by_cases hi:i<nt
  ·rw[qq (by simpa using hi),Qm] at e2;split at e2 <;> cases e2
  ·rw[qa (by simpa using hi),qy,yl] at e2;obtain⟨j,rfl⟩:∃ j,i=nt+j:=⟨i - nt,by omega⟩
   rw[QX] at e2;cases ec:caps[j]? with
   |none=>rw[ec] at e2;cases e2
   |some ci=>
    rw[ec] at e2;have e2':σ.getD ci none=some v:=by simpa using e2
    have hj:j<caps.length:=(yh.mp ec).1;have q:=List.all_eq_true.mp S.cap j (jL.mpr hj);have ed:caps.getD j 0=ci:=by rw[yM,ec];rfl
    have e1':N[nt+j]?=some x:=e1;rw[e1',ed] at q;cases ex:XN[ci]? with
    |none=>rw[ex] at q;cases q
    |some y=>
     rw[ex] at q;simp only[Yr,beq_iff_eq] at q;obtain⟨rfl,qf⟩:=q;have eσ:σ[ci]?=some (some v):=by
      rw[yM] at e2';cases z:σ[ci]? with
      |none=>rw[z] at e2';cases e2'
      |some w'=>rw[z] at e2';exact congrArg some e2'
     obtain⟨m,hm,hl⟩:=I.loc;have vis:=S.free _ (ZF qf) rfl;rw[←hX] at vis;obtain⟨u,r,lk⟩:=hl ci x v (by rw[hN];exact ex) eσ (.inr vis);refine⟨u,r,.inr ⟨ZC qf,?_⟩⟩;obtain⟨c,hc⟩:=ZN (cells:=X.env.cells) (acc:=[]) (ZF qf);have hc':=sub x c hc;rcases lk with ⟨k,_⟩|⟨k,c2,ec2,z⟩
     ·exfalso;have k':X.env.scope.names.lookup x=some .local:=k;dsimp only at vis;rcases vis with v1|v1
      ·rw[k'] at v1;cases v1
      ·rw[k'] at v1;cases v1
     ·rw[hc'] at ec2;cases ec2;obtain⟨o,ho,hd⟩:=z;exact⟨c,hc,o,hk c o ho,hd⟩
 ·obtain⟨v,o,ho,hd⟩:=I.cell x c (sub x c e);exact⟨v,o,hk c o ho,hd⟩
 ·obtain⟨e,n,ne,nf,d⟩:=I.pin p (yS _ (show p∈pins from (qb.mp hp).elim (fun z=>absurd (show p∈([]:List (Addr×Obj)) from z) (by simp)) id));exact⟨hk _ _ e,n,yQ (yj e),offS _ ne nf,d⟩
 ·unfold ua;rw[Yh,qy,yf];exact S.len.symm
end
def fc (nt:Nat)(caps:List Nat)(wi:TI)(g:CArg->TG)(tc:CArg->TT)(te:CArg->TE):TE:=fun σ H Q=>wi σ H fun J H1=>∀ D,H1 D=none->∀ c:CArg,∃ W:Nat->Nat->St->List V->Hp->Prop,
 (∃ m,W 0 m (ua nt caps σ) [] (upd H1 D (.lst [])))/\∀ i m σ' ys H',W i m σ' ys H'->H' D=some (.lst ys)/\ys.length<sizeLine/\
  ((J.stop i H'/\Q (.ref D) H')∨(J.go i H'/\∀ x H2,J.yld i H' x H2->g c x σ' H2 fun σ3 H3=>tc c σ3 H3 fun b H4=>if b=true then te c σ3 H4 fun y H5=>∃ ys',H5 D=some (.lst ys')/\ys'.length<sizeLine/\∃ m',m'<m/\W (i+1) m' σ3 (ys'++[y]) (upd H5 D (.lst (ys'++[y])))
   else ∃ ys' m',m'<m/\W (i+1) m' σ3 ys' H4))
def sP:CArg->TT:=fun _ _ H Q=>Q true H
section
variable {X:Cx}{tg iter elt:Expr}{ifs:List Expr}{sc SX:Scope}{N XN:List Str}{nt:Nat}{caps:List Nat}{wi:TI}{g:CArg->TG}{tc:CArg->TT}{te:CArg->TE}{pos:Pos}
def PTs (X:Cx)(ifs:List Expr)(t:TT):Prop:=∀ (pins:List (Addr×Obj)) (s:Shared) (σ:St) (H:Hp) (Q:Bool->Hp->Prop),Inv X pins σ H s->t σ H Q->
 wpAny (model X.prog X.w) X.A (forIn ifs true fun c r=>if r=true then do let ok ←isTrue c X.env (eval c X.env);pure (ForInStep.yield ok) else pure (ForInStep.yield r)) (TP X pins σ Q) X.xe s
theorem mU {c:CArg}:PTs X [] (sP c):=fun pins s σ H Q I h=>wpAny_tests_nil ⟨H,I,h⟩
theorem lq {c:Expr}{t:TT}(h:PT X c t):PTs X [c] t:=fun pins s σ H Q I hq=>wpAny_tests_one (h pins s σ H Q I hq)
theorem KB {pins:List (Addr×Obj)}{σ:St}{H2:Hp}{s2:Shared}{it:Addr}{fp:List Addr}{tn:Nat->Heap->Prop}{J:It}{Q:VK}{RR:Value->Addr->Result->Shared->Prop}{E:Value->Shared->Prop}
  (S:CompOk SX sc XN N nt caps) (hX:X.env.scope=SX) (hN:X.N=XN) (hc:X.calm=true) (hg:∀ c,PG (X.comp sc N c) tg (g c)) (ht:∀ c,PTs (X.comp sc N c) ifs (tc c)) (he:∀ c,PE (X.comp sc N c) elt (te c))
  (I2:Inv X pins σ H2 s2) (T:Turn X.prog X.w X.K tg J fp it tn) (st2:tn 0 s2.heap) (f2:∀ b∈fp,k7 X pins H2 b)
  (h:∀ D,H2 D=none->∀ c:CArg,∃ W:Nat->Nat->St->List V->Hp->Prop,
   (∃ m,W 0 m (ua nt caps σ) [] (upd H2 D (.lst [])))/\∀ i m σ' ys H',W i m σ' ys H'->H' D=some (.lst ys)/\ys.length<sizeLine/\
   ((J.stop i H'/\Q (.ref D) H')∨(J.go i H'/\∀ x H2,J.yld i H' x H2->g c x σ' H2 fun σ3 H3=>tc c σ3 H3 fun b H4=>if b=true then te c σ3 H4 fun y H5=>∃ ys',H5 D=some (.lst ys')/\ys'.length<sizeLine/\∃ m',m'<m/\W (i+1) m' σ3 (ys'++[y]) (upd H5 D (.lst (ys'++[y])))
    else ∃ ys' m',m'<m/\W (i+1) m' σ3 ys' H4)))
  (hR:∀ D C s' m H',s'.heap.Ns C m->s2.heap.objs.size<C->Inv X pins σ H' s'->H' C=none->C≠X.env.locals->(∀ x c,X.env.cells.lookup x=some c->c≠C)->(∀ p∈X.pn++pins,p.1≠C)->X.s₀.heap.objs.size<=C->Q (.ref D) H'->RR (.ref D) C (.ok .next) s') :
  wpAny (model X.prog X.w) X.A (newList []) (fun acc s₃=>wpAny (model X.prog X.w) X.A (newFunctionEnv sc X.env.globals (jw sc.names X.env.cells []) [] X.env.qual none .none (some X.env)) (fun cenv s₄=>
   codeAny (model X.prog X.w) X.A (.compStart (.ListComp elt [⟨tg,iter,ifs,0⟩] sc pos) 0 (.ref it) acc {cenv with scope:=relabel sc X.env}) (RR acc cenv.locals) s₄) E s₃) E s2:=by
 have lt2:∀ b∈fp,b<s2.heap.objs.size:=fun b hb=>by
  obtain⟨o,e,_⟩:=T.obj _ _ st2 b hb;exact yj e
 have hD0:H2 s2.heap.objs.size=none:=I2.hok.fresh (yo _);have I3:Inv X pins σ (upd H2 s2.heap.objs.size (.lst [])) {s2 with heap:=s2.heap.push {cls:=.type "list", dict:=none,data:=.seq ([]:List Value).toArray}}:=
  I2.laid (t':=s2.toks) (fun b u e=>yk _ e) (yo _) ⟨qU _,[],0,.nil,yu _ rfl⟩
 have f3:∀ b∈fp,k7 X pins (upd H2 s2.heap.objs.size (.lst [])) b:=fun b hb=>⟨by rw[yA (yQ (lt2 b hb))];exact(f2 b hb).1,(f2 b hb).2⟩
 refine wpAny_newObj_type (wpAny_newFunctionEnv S.nocell (by intro y hy;simp at hy) (fun h1 hn1 hs1=>?_) S.kind);dsimp only at hn1 hs1 ⊢;generalize hg3:({s2 with heap:=s2.heap.push {cls:=.type "list", dict:=none,data:=.seq ([]:List Value).toArray}}:Shared)=s3 at I3;have e3:s2.heap.push {cls:=.type "list", dict:=none,data:=.seq ([]:List Value).toArray}=s3.heap:=by rw[←hg3]
 rw[e3] at hn1 hs1 ⊢;have lt3:∀ b∈fp,b<s3.heap.objs.size:=fun b hb=>by
  rw[←e3,Heap.size_push];exact Nat.lt_succ_of_lt (lt2 b hb)
 have hC2:s2.heap.objs.size<s3.heap.objs.size:=by rw[←e3,Heap.size_push];exact Nat.lt_succ_self _
 have hk:∀ b o,s3.heap.get? b=some o->h1.get? b=some o:=fun b o e=>hs1.extBut b o (yQ (yj e)) (yk _ e);have I4:=I3.enter S hX hN f3 lt3 (t':=s2.toks+([]:List (Str×Value)).length) hn1 hk;have fin:∀ {s':Shared} {σ':St} {H':Hp},Inv (X.comp sc N ⟨s3.heap.objs.size,s3,upd H2 s2.heap.objs.size (.lst []),fp⟩) pins σ' H' s'->Q (.ref s2.heap.objs.size) H'->RR (.ref s2.heap.objs.size) s3.heap.objs.size (.ok .next) s':=fun {s' σ' H'} I' q=>by
  obtain⟨m,hm,_⟩:=I'.loc;refine hR _ _ s' m H' hm hC2 (I3.call' (ch:=fp) I'.os I'.base I'.hok I'.bare fun b hb=>?_) I'.free (qN I3.lt) (fun x c e=>?_) (fun p hp=>?_) I3.sz q
  ·obtain⟨g0,g1,g2,g3,g4,g5⟩:=f3 b hb;exact⟨g3,g1,g4,g5⟩
  ·obtain⟨v,z⟩:=I3.cell x c e;exact yQ z.lt
  ·exact yQ (yj (I3.pin p hp).1)
 have subc:∀ x c,(jw sc.names X.env.cells []).lookup x=some c->X.env.cells.lookup x=some c:=fun x c e=>by
  rcases Zy (S.hf I3 hX) e with q|q
  ·cases q
  ·exact q
 obtain⟨W,⟨m0,w0⟩,step⟩:=h _ hD0 ⟨s3.heap.objs.size,s3,upd H2 s2.heap.objs.size (.lst []),fp⟩;have stat:∀ {H':Hp},(∀ b∈fp,H' b=none)->∀ b∈fp,k7 (X.comp sc N ⟨s3.heap.objs.size,s3,upd H2 s2.heap.objs.size (.lst []),fp⟩) pins H' b:=fun {H'} hn b hb=>by
  obtain⟨g0,g1,g2,g3,g4,g5⟩:=f3 b hb;refine⟨hn b hb,yQ (lt3 b hb),fun z=>?_,.inl hb,fun x c e=>g4 x c (subc x c e),fun p hp=>g5 p (yS _ ((qb.mp hp).elim (fun z=>absurd (show p∈([]:List (Addr×Obj)) from z) (by simp)) id))⟩;rcases yP.mp (I3.stkSub b z) with q|q
  ·exact g1 q
  ·exact g2 q
 have st4:tn 0 h1:=T.keep _ _ _ st2 fun b hb o e=>hk b o (by rw[←e3];exact yk _ e);have fr4:∀ b∈fp,upd H2 s2.heap.objs.size (.lst []) b=none:=fun b hb=>(f3 b hb).1;have hs4:({s2 with heap:=h1,toks:=s2.toks+([]:List (Str×Value)).length}:Shared)={s3 with heap:=h1,toks:=s2.toks+([]:List (Str×Value)).length}:=by rw[←hg3]
 rw[hs4];have loop:codeAny (model X.prog X.w) X.A (.compLoop (.ListComp elt [⟨tg,iter,ifs,0⟩] sc pos) 0 (.ref it) (.ref s2.heap.objs.size) (compEnvC sc (jw sc.names X.env.cells []) s3.heap.objs.size X.env)) (RR (.ref s2.heap.objs.size) s3.heap.objs.size)
   {s3 with heap:=h1,toks:=s2.toks+([]:List (Str×Value)).length}:=by
  refine cB (fun n s'=>∃ i σ' ys H',Inv (X.comp sc N ⟨s3.heap.objs.size,s3,upd H2 s2.heap.objs.size (.lst []),fp⟩) pins σ' H' s'/\tn i s'.heap/\(∀ b∈fp,H' b=none)/\W i n σ' ys H') ?_ m0 ⟨0,_,[],_,I4,st4,fr4,w0⟩;rintro n s' ⟨i,σ',ys,H',I',st',fr',w'⟩;obtain⟨hD,hz,alt⟩:=step i n σ' ys H' w';rcases alt with ⟨stop,qn⟩|⟨go,turn⟩
  ·refine thn (T.done (X.comp sc N ⟨s3.heap.objs.size,s3,upd H2 s2.heap.objs.size (.lst []),fp⟩) rfl rfl rfl hc i pins s' σ' H' _ I' (stat fr') st' stop) fun r s4 ⟨hr,J4⟩=>?_;subst hr;exact fin J4 qn
  ·refine thn (T.item (X.comp sc N ⟨s3.heap.objs.size,s3,upd H2 s2.heap.objs.size (.lst []),fp⟩) rfl rfl rfl hc i pins s' σ' H' _ I' (stat fr') st' go) fun r s4 ⟨u,hr,h4⟩=>?_;subst hr;refine thn h4 fun _ s5 ⟨x,H5,I5,r5,y5,st5,fr5⟩=>?_;have I5':=I5.pinned (stat fr5) (T.obj _ _ st5);refine thn (hg _ _ s5 σ' H5 x u _ I5' r5 (turn x H5 y5)) fun _ s6 ⟨σ6,H6,I6,q6⟩=>?_;refine thn (ht _ _ s6 σ6 H6 _ I6 q6) fun ok s7 ⟨H7,I7,q7⟩=>?_;have again:∀ {s8:Shared} {H8:Hp} {ys8:List V} {m8:Nat},Inv (X.comp sc N ⟨s3.heap.objs.size,s3,upd H2 s2.heap.objs.size (.lst []),fp⟩) (pins++uE fp s5.heap) σ6 H8 s8->m8<n->W (i+1) m8 σ6 ys8 H8->
     ∃ m,m<n/\∃ i σ' ys H',Inv (X.comp sc N ⟨s3.heap.objs.size,s3,upd H2 s2.heap.objs.size (.lst []),fp⟩) pins σ' H' s8/\tn i s8.heap/\(∀ b∈fp,H' b=none)/\W i m σ' ys H':=fun {s8 H8 ys8 m8} I8 hm w8=>by
    refine⟨m8,hm,i+1,σ6,ys8,H8,I8.unpinned,T.keep _ _ _ st5 fun b hb o e=>(I8.pin (b,o) (yS _ (yS _ (Zu hb e)))).1,fun b hb=>?_,w8⟩;obtain⟨o,e,d⟩:=T.obj _ _ st5 b hb;exact(I8.pin (b,o) (yS _ (yS _ (Zu hb e)))).2.1
   cases ok with
   |false=>
    obtain⟨ys8,m8,hm,w8⟩:=q7;exact again I7 hm w8
   |true=>
    refine thn (he _ _ s7 σ6 H7 _ I7 q7) fun y s8 ⟨v,H8,I8,r8,ys8,e8,z8,m8,hm,w8⟩=>?_;refine thn (VS (X:=X.comp sc N ⟨s3.heap.objs.size,s3,upd H2 s2.heap.objs.size (.lst []),fp⟩) _ s8 σ6 H8 (.ref s2.heap.objs.size) [v] _ [y] (fun _ H9=>H9=upd H8 s2.heap.objs.size (.lst (ys8++[v]))) I8 rfl (.cons r8 .nil) ⟨_,ys8,v,rfl,rfl,e8,z8,rfl⟩)
     fun _ s9 ⟨_,H9,I9,_,e9⟩=>?_
    subst e9;exact again I9 hm w8
 exact codeAny_compStart_list loop (T.self X.A 0 _ _ _ st4 loop)
theorem bf (S:CompOk SX sc XN N nt caps)(hi:PI X tg iter wi)(hg:∀ c,PG (X.comp sc N c) tg (g c))(ht:∀ c,PTs (X.comp sc N c) ifs (tc c))(he:∀ c,PE (X.comp sc N c) elt (te c))(hc:X.calm=true:=by rfl)(hX:X.env.scope=SX:=by rfl)(hN:X.N=XN:=by rfl)
  (hs:∀ x,foldedSetIterable iter X.env x=pure x:=by intro _;rfl):PE X (.ListComp elt [⟨tg,iter,ifs,0⟩] sc pos) (fc nt caps wi g tc te):=by
 intro pins s σ H Q I h;rw[eval_ListComp];refine wpAny_comprehension_free (use:=none) rfl hs (VE (S.hf I hX)) S.kind S.loc (thn (hi pins s σ H _ I h) fun v s1 h1=>thn h1 fun itv s2 h2=>?_);obtain⟨it,fp,tn,J,H2,rfl,I2,T,st2,f2,h2⟩:=h2;refine KB (RR:=fun acc C=>compPost (model X.prog X.w) X.A X.xe none (EP X pins σ Q) acc C) S hX hN hc hg ht he I2 T st2 f2 h2 fun D C s' m H' hm hC I' hf hL hcl hpn hs0 q=>?_;refine⟨m,hm,fun h'' hs''=>⟨.ref D,H',I'.turned (it:=C) (t':=s'.toks) (fun b o hb e=>hs''.extBut b o hb e) hf hL (.inr hs0) hcl hpn,rfl,q⟩⟩
theorem ml {y:Str}{py:Pos}{i:Nat}{spos:Pos}(S:CompOk SX sc XN N nt caps)(hnd:X.N.Nodup)(hix:X.N[i]?=some y)(hy:Loc X.env.scope y)(hi:PI X tg iter wi)(hg:∀ c,PG (X.comp sc N c) tg (g c))(ht:∀ c,PTs (X.comp sc N c) ifs (tc c))(he:∀ c,PE (X.comp sc N c) elt (te c))
  (hsw:swapsWith (.ListComp elt [⟨tg,iter,ifs,0⟩] sc pos) (some (.Name y py)) spos.line X.env=pure true:=by rfl) (hc:X.calm=true:=by rfl) (hX:X.env.scope=SX:=by rfl) (hN:X.N=XN:=by rfl)
  (hs:∀ x,foldedSetIterable iter X.env x=pure x:=by intro _;rfl) (hf:X.fn y=true∨X.env.scope.names.lookup y=some .local:=by first|exact .inl rfl|exact .inr rfl):PS X (.Assign [.Name y py] (.ListComp elt [⟨tg,iter,ifs,0⟩] sc pos) spos) (oz (fc nt caps wi g tc te) (xM i)):=by
 intro pins s σ H D I h;rw[exec_Assign_Name_used _ _ _ _ hsw];refine ya (wpAny_standAt (ya ?_));show wpAny _ X.A (do let _ ←comprehension (.ListComp elt [⟨tg,iter,ifs,0⟩] sc pos) sc X.env _ (newList []) false (eval iter X.env) (some (assign (.Name y py) X.env))) _ _ s;refine ya (YF (wpAny_comprehension_free (use:=some (assign (.Name y py) X.env)) (Q:=fun _ s'=>SP X pins D .next s') rfl hs (VE (S.hf I hX)) S.kind S.loc (thn (hi pins s σ H _ I h) fun v s1 h1=>thn h1 fun itv s2 h2=>?_)) (fun _ s' hq=>yg (yg hq)) fun _ _ e=>e);obtain⟨it,fp,tn,J,H2,rfl,I2,T,st2,f2,h2⟩:=h2;refine KB (Q:=fun x H1=>xM i x σ H1 D.nx) (RR:=fun acc C=>compPost (model X.prog X.w) X.A X.xe (some (assign (.Name y py) X.env)) (fun _ s'=>SP X pins D .next s') acc C) S hX hN hc hg ht he I2 T st2 f2 h2 fun D' C s' m H' hm hC I' hfC hL hcl hpn hs0 q=>?_;show wpAny _ X.A (assign (.Name y py) X.env (.ref D')) _ _ s';refine wpAny_assign_Name (UW (v:=.ref D') I' hnd hix hy rfl (fun s5 I5 hch=>?_) hf);obtain⟨a,sb,ha⟩:=hch;have hCa:C≠a:=by
  rcases ha with z|z
  ·rw[z];exact hL
  ·exact(hcl _ _ z).symm
 refine⟨m,hm.sameBut sb hCa,fun h'' hs''=>⟨σ.set i (some (.ref D')),H',I5.turned (it:=C) (t':=s5.toks) (fun b o hb e=>hs''.extBut b o hb e) hfC hL (.inr hs0) hcl hpn,q⟩⟩
end
section
variable {X:Cx}{pins:List (Addr×Obj)}{σ:St}{H:Hp}{s:Shared}
theorem Inv.drawn {fp:List Addr}{h':Heap}{t':Nat}{ds:List V}{us:List Value}{n:Nat}(I:Inv X pins σ H s)(hf:∀ b∈fp,k7 X pins H b)(kp:∀ b o,b∉fp->s.heap.get? b=some o->h'.get? b=some o)
  (new:h'.get? s.heap.objs.size=some {cls:=.type "tuple", data:=.seq us.toArray n}) (r:YN ds us) (hz:ds.length<=sizeLine):Inv X pins σ (upd H s.heap.objs.size (.tup ds)) {s with heap:=h',toks:=t'}:=by
 have hT:H s.heap.objs.size=none:=I.hok.fresh (yo _);have nf:∀ b u,H b=some u->b∉fp:=fun b u e hb=>by rw[(hf b hb).1] at e;cases e
 refine I.call (g':=s.gens) (d':=s.drawn) (ch:=fp) ⟨fun b o e n hb hx=>kp b o hx e,fun b o e n hb hx=>⟨o.slots,kp b o hx e⟩,fun b o e n hx=>?_,fun b o e hx=>⟨o,kp b o hx e⟩,fun b xs q=>?_,fun b o u q=>?_,fun b ps q=>?_⟩ ?_ I.bare (fun b hb=>?_)
 ·rw[yA (yQ (yj e))];exact n
 ·rw[yA (yZ q hT)];exact q
 ·rw[yA (yZ q hT)];exact q
 ·exact⟨#[],by rw[yA (yZ q hT),q];simp⟩
 ·intro b u e;by_cases hb:b=s.heap.objs.size
  ·subst hb;rw[yN] at e;cases e;exact⟨hz,us,r,_,new,rfl,n,rfl⟩
  ·rw[yA hb] at e;refine(I.hok b u e).stay (fun c v hc q=>kp c v (fun z=>?_) q) (fun c q=>?_) fun c xs q=>?_
   ·rcases hc with w' | w'
    ·subst w';exact nf _ _ e z
    ·exact nf _ _ w' z
   ·rw[yA (yZ q hT)];exact q
   ·rw[yA (yZ q hT)];exact q
 ·obtain⟨f0,f1,f2,f3,f4,f5⟩:=hf b hb;exact⟨f3,f1,f4,f5⟩
theorem Inv.turnedL {fp:List Addr}{h':Heap}{t':Nat}(I:Inv X pins σ H s)(hf:∀ b∈fp,k7 X pins H b)(kp:∀ b o,b∉fp->s.heap.get? b=some o->h'.get? b=some o):Inv X pins σ H {s with heap:=h',toks:=t'}:=by
 have nf:∀ b u,H b=some u->b∉fp:=fun b u e hb=>by rw[(hf b hb).1] at e;cases e
 refine I.call (g':=s.gens) (d':=s.drawn) (ch:=fp) ⟨fun b o e n hb hx=>kp b o hx e,fun b o e n hb hx=>⟨o.slots,kp b o hx e⟩,fun b o e n hx=>n,fun b o e hx=>⟨o,kp b o hx e⟩,fun b xs q=>q,fun b o u q=>q,fun b ps q=>⟨#[],by rw[q];simp⟩⟩ ?_ I.bare (fun b hb=>?_)
 ·intro b u e;refine(I.hok b u e).stay (fun c v hc q=>kp c v (fun z=>?_) q) (fun c q=>q) fun c xs q=>q;rcases hc with w' | w'
  ·subst w';exact nf _ _ e z
  ·exact nf _ _ w' z
 ·obtain⟨f0,f1,f2,f3,f4,f5⟩:=hf b hb;exact⟨f3,f1,f4,f5⟩
end
def Ite (K:W.Frag)(a:Addr):It:=
 ⟨fun i H=>∃ xs x,SqL K H a xs/\xs[i]?=some x,fun i H x H'=>∃ T y,H T=none/\x=.ref T/\(∀ xs,SqL K H a xs->xs[i]?=some y)/\H'=upd H T (.tup [.int (i:Int),y]),fun i H=>∃ xs,SqL K H a xs/\xs.length<=i⟩
theorem cx {P:Program}{w:World}{K:W.Frag}{es:List Expr}{x1:Nat}{pos:Pos}(a e it:Addr)(hne:e≠it):Turn P w K (.Tuple es x1 pos) (Ite K a) [e,it] e (fun i h=>(∃ old,IsEnum h e it (i:Int) old)/\h.IsListIter it a i) where
 mem:=by simp
 obj:=fun i h st b hb=>by
  obtain⟨⟨old,h1⟩,o,h2,c,d⟩:=st;rcases yP.mp hb with z|z
  ·subst z;exact⟨_,h1,fun v z=>by
    have z':Data.fields _=Data.cell v:=z;cases z'⟩
  ·rw[yD.mp z];exact⟨o,h2,fun v z=>by rw[d] at z;cases z⟩
 keep:=fun i h h' st k=>by
  obtain⟨⟨old,h1⟩,h2⟩:=st;exact⟨⟨old,k e (by simp) _ h1⟩,h2.at fun o z=>k it (by simp) o z⟩
 item:=by
  intro X hP hw hK hc i pins s σ H E I hf st hg;subst hP hw hK;obtain⟨xs,x,hq,hx⟩:=hg;obtain⟨its,rv,p,hz⟩:=I.list hq;obtain⟨u,hu,ru⟩:=rv.get hx;obtain⟨⟨old,he⟩,hit⟩:=st;refine wpAny_pyNext_enum_item he hit p.isList (x:=u) (by simpa using hu) hne fun h' out it' tup sz kp=>?_;refine⟨_,rfl,wpAny_letOwnedTupleGo_enum out fun h2 he2 sb=>?_⟩;have heT:e≠s.heap.objs.size:=yQ (yj he);have kp2:∀ b o,b∉[e,it]->s.heap.get? b=some o->h2.get? b=some o:=fun b o hb q=>by
   have b1:b≠e:=fun z=>hb (by simp[z]);have b2:b≠it:=fun z=>hb (by simp[z]);exact(sb.2 b b1).trans (kp b o b1 b2 q)
  refine⟨.ref s.heap.objs.size,upd H s.heap.objs.size (.tup [.int (i:Int),x]),?_,rfl,⟨s.heap.objs.size,x,I.hok.fresh (yo _),rfl,fun ys hy=>by rw[I.list_inj hy hq];exact hx,rfl⟩,⟨⟨u,by simpa using he2⟩,it'.at fun o z=>(sb.2 it (Ne.symm hne)).trans z⟩,fun b hb=>?_⟩
  ·exact I.drawn (t':=s.toks+1) (us:=[.int (i:Int) s.toks,u]) (n:=0) hf kp2 ((sb.2 _ (Ne.symm heT)).trans tup) (.cons ⟨_,rfl⟩ (.cons ru .nil)) (by show 2<=sizeLine;decide)
  ·have hl:b<s.heap.objs.size:=by
    rcases yP.mp hb with z|z
    ·subst z;exact yj he
    ·rw[yD.mp z];obtain⟨o,q,_⟩:=hit;exact yj q
   rw[yA (yQ hl)];exact(hf b hb).1
 done:=by
  intro X hP hw hK hc i pins s σ H E I hf st hg;subst hP hw hK;obtain⟨xs,hq,hx⟩:=hg;obtain⟨its,rv,p,hz⟩:=I.list hq;obtain⟨⟨old,he⟩,hit⟩:=st;have hl:=rv.length;refine wpAny_pyNext_enum_end (I.ok.hd hc) he hit p.isList (by simp;omega) fun h' eb=>⟨rfl,I.turnedL (t':=s.toks) hf fun b o hb q=>eb b o (fun z=>hb (by simp[z])) q⟩
 self:=fun _ _ _ _ _ st h=>by
  obtain⟨⟨old,he⟩,_⟩:=st;exact wpAny_pyIter_enum he h
def Itz (K:W.Frag)(a b:Addr):It:=
 ⟨fun i H=>∃ xs ys x y,SqL K H a xs/\SqL K H b ys/\xs[i]?=some x/\ys[i]?=some y,fun i H v H'=>∃ T x y,H T=none/\v=.ref T/\(∀ xs,SqL K H a xs->xs[i]?=some x)/\(∀ ys,SqL K H b ys->ys[i]?=some y)/\H'=upd H T (.tup [x,y]),
  fun i H=>∃ xs ys,SqL K H a xs/\SqL K H b ys/\(xs.length<=i∨ys.length<=i)⟩
theorem gS {P:Program}{w:World}{K:W.Frag}{es:List Expr}{x1:Nat}{pos:Pos}(l1 l2 z TI TO i1 i2:Addr)(D:ZipApart z TI TO i1 i2 l1 l2) :
  Turn P w K (.Tuple es x1 pos) (Itz K l1 l2) [z,TO,i1,i2,TI] z (fun i h=>IsZip h z TI TO .none/\IsPair h TI (.ref i1) (.ref i2)/\(∃ a b,IsPair h TO a b)/\h.IsListIter i1 l1 i/\h.IsListIter i2 l2 i) where
 mem:=by simp
 obj:=fun i h st b hb=>by
  obtain⟨h1,h2,⟨a,c,h3⟩,⟨o4,e4,c4,d4⟩,⟨o5,e5,c5,d5⟩⟩:=st;have nf:∀ {vs:Array Value} {v:Option Value},Data.fields vs≠Data.cell v:=fun z=>by cases z
  have ns:∀ {vs:Array Value} {n:Nat} {v:Option Value},Data.seq vs n≠Data.cell v:=fun z=>by cases z
  simp only[yP,qc,or_false] at hb;rcases hb with rfl|rfl|rfl|rfl|rfl
  ·exact⟨_,h1,fun v z=>nf z⟩
  ·exact⟨_,h3,fun v z=>ns z⟩
  ·exact⟨_,e4,fun v z=>by rw[d4] at z;cases z⟩
  ·exact⟨_,e5,fun v z=>by rw[d5] at z;cases z⟩
  ·exact⟨_,h2,fun v z=>ns z⟩
 keep:=fun i h h' st k=>by
  obtain⟨h1,h2,⟨a,c,h3⟩,h4,h5⟩:=st;exact⟨k z (by simp) _ h1,k TI (by simp) _ h2,⟨a,c,k TO (by simp) _ h3⟩,h4.at fun o q=>k i1 (by simp) o q,h5.at fun o q=>k i2 (by simp) o q⟩
 item:=by
  intro X hP hw hK hc i pins s σ H E I hf st hg;subst hP hw hK;obtain⟨xs,ys,x,y,hq1,hq2,hx,hy⟩:=hg;obtain⟨its1,rv1,p1,_⟩:=I.list hq1;obtain⟨its2,rv2,p2,_⟩:=I.list hq2;obtain⟨u,hu,ru⟩:=rv1.get hx;obtain⟨v,hv,rv⟩:=rv2.get hy;obtain⟨h1,h2,⟨a,c,h3⟩,h4,h5⟩:=st;have lts:∀ b∈[z,TO,i1,i2,TI],b<s.heap.objs.size:=fun b hb=>by
   obtain⟨_,e4,_⟩:=h4;obtain⟨_,e5,_⟩:=h5;simp only[yP,qc,or_false] at hb;rcases hb with rfl|rfl|rfl|rfl|rfl
   ·exact yj h1
   ·exact yj h3
   ·exact yj e4
   ·exact yj e5
   ·exact yj h2
  refine wpAny_pyNext_zip_item D h1 h2 h3 h4 h5 p1.isList p2.isList (x:=u) (y:=v) (by simpa using hu) (by simpa using hv) fun h' g1 g2 g3 g4 g5 sz kp=>?_;refine⟨_,rfl,wpAny_letOwnedTupleGo_zip g1 fun hh gz sb=>?_⟩;have zT:z≠s.heap.objs.size:=yQ (lts z (by simp));have kp2:∀ b o,b∉[z,TO,i1,i2,TI]->s.heap.get? b=some o->hh.get? b=some o:=fun b o hb q=>by
   simp only[yP,qc,or_false,not_or] at hb;exact(sb.2 b hb.1).trans (kp b o hb.1 hb.2.1 hb.2.2.1 hb.2.2.2.1 q)
  refine⟨.ref s.heap.objs.size,upd H s.heap.objs.size (.tup [x,y]),?_,rfl,⟨s.heap.objs.size,x,y,I.hok.fresh (yo _),rfl,fun ws hw=>by rw[I.list_inj hw hq1];exact hx,fun ws hw=>by rw[I.list_inj hw hq2];exact hy,rfl⟩,
   ⟨gz,(sb.2 TI D.TIz).trans (kp TI _ D.TIz D.TITO D.TIi1 D.TIi2 h2),⟨u,v,(sb.2 TO D.TOz).trans g2⟩,g3.at fun o q=>(sb.2 i1 D.i1z).trans q,g4.at fun o q=>(sb.2 i2 D.i2z).trans q⟩,fun b hb=>?_⟩
  ·exact I.drawn (t':=s.toks) (us:=[u,v]) (n:=0) hf kp2 ((sb.2 _ (Ne.symm zT)).trans g5) (.cons ru (.cons rv .nil)) (by show 2<=sizeLine;decide)
  ·rw[yA (yQ (lts b hb))];exact(hf b hb).1
 done:=by
  intro X hP hw hK hc i pins s σ H E I hf st hg;subst hP hw hK;obtain⟨xs,ys,hq1,hq2,hx⟩:=hg;obtain⟨its1,rv1,p1,_⟩:=I.list hq1;obtain⟨its2,rv2,p2,_⟩:=I.list hq2;obtain⟨h1,h2,⟨a,c,h3⟩,h4,h5⟩:=st;have e1:=rv1.length;have e2:=rv2.length;refine wpAny_pyNext_zip_end (I.ok.hd hc) D h1 h2 h3 h4 h5 p1.isList p2.isList (hx.elim (fun q=>.inl (by simp;omega)) fun q=>.inr (by simp;omega)) fun h' kp=>⟨rfl,I.turnedL (t':=s.toks) hf fun b o hb q=>?_⟩
  simp only[yP,qc,or_false,not_or] at hb;exact kp b o hb.1 hb.2.1 hb.2.2.1 hb.2.2.2.1 q
 self:=fun _ _ _ _ _ st h=>wpAny_pyIter_zip st.1 h
def sR (ta:TA):TI:=fun σ H R=>ta σ H fun vs H1=>∃ a xs,vs=[.ref a]/\Rd H1 a (.lst xs)/\∀ K,R (Ite K a) H1
def AB (K:W.Frag)(ta:TA):TI:=fun σ H R=>ta σ H fun vs H1=>∃ a b xs ys,vs=[.ref a,.ref b]/\SqL K H1 a xs/\SqL K H1 b ys/\R (Itz K a b) H1
section
variable {X:Cx}{es:List Expr}{x1:Nat}{tpos:Pos}
theorem mW {a:Expr}{ta:TA}{p pos:Pos}(hg:Gl X "enumerate")(hm:X.mg "enumerate" = none)(ha:PA X [a] ta)(hs:starEach [a] X.env=[(false,eval a X.env)]:=by rfl):PI X (.Tuple es x1 tpos) (.Call (.Name "enumerate" p) [a] [] pos) (sR ta):=by
 intro pins s σ H R I h;refine Call_ (ZG I hg hm boot_enumerate (PyProof.Rows.callWith_type1 (thn (ha pos pins s σ H _ I h) fun us s1 ⟨vs,H1,I1,r1,q1⟩=>?_) hs rfl));obtain⟨l,xs,e,hl,q⟩:=q1;subst e;cases r1 with
 |cons r rr=>
  cases rr;cases r;obtain⟨hz,its,n,rv,eo⟩:=hl.ok I1.hok;refine call_enumerate_1 eo fun h' he hit sz kp=>?_;refine wpAny_pyIter_enum he ?_;have hne:s1.heap.objs.size+1≠s1.heap.objs.size:=Nat.succ_ne_self _;refine⟨_,[s1.heap.objs.size+1,s1.heap.objs.size],_,_,H1,rfl,I1.kept (t':=s1.toks) kp,cx l _ _ hne,⟨⟨.none,he⟩,hit⟩,fun b hb=>?_,q X.K⟩;have hb':s1.heap.objs.size<=b:=by
   simp only[yP,qc,or_false] at hb;rcases hb with rfl|rfl
   ·exact Nat.le_succ _
   ·exact yo _
  exact I1.fpOk hb' (I1.hok.fresh hb')
theorem pW {a b:Expr}{ta:TA}{p pos:Pos}(hg:Gl X "zip")(hm:X.mg "zip" = none)(ha:PA X [a,b] ta)(hs:starEach [a,b] X.env=[(false,eval a X.env),(false,eval b X.env)]:=by rfl)(hs2:starEach [b] X.env=[(false,eval b X.env)]:=by rfl) :
  PI X (.Tuple es x1 tpos) (.Call (.Name "zip" p) [a,b] [] pos) (AB X.K ta):=by
 intro pins s σ H R I h;refine Call_ (ZG I hg hm boot_zip (PyProof.Rows.callWith_type1 (thn (ha pos pins s σ H _ I h) fun us s1 ⟨vs,H1,I1,r1,q1⟩=>?_) (by rw[hs,hs2]) (by rw[hs2];rfl)));obtain⟨l1,l2,xs,ys,e,hl1,hl2,q⟩:=q1;subst e;cases r1 with
 |cons r rr=>
  cases rr with
  |cons r' rr=>
   cases rr;cases r;cases r';obtain⟨its1,rv1,p1,_⟩:=I1.list hl1;obtain⟨its2,rv2,p2,_⟩:=I1.list hl2;have lt1:l1<s1.heap.objs.size:=by obtain⟨_,e,_⟩:=p1.isList;exact yj e
   have lt2:l2<s1.heap.objs.size:=by obtain⟨_,e,_⟩:=p2.isList;exact yj e
   refine call_zip_2 p1.isList p2.isList fun h' g1 g2 g3 g4 g5 sz kp=>?_;refine wpAny_pyIter_zip g1 ?_;refine⟨_,[s1.heap.objs.size+4,s1.heap.objs.size+3,s1.heap.objs.size,s1.heap.objs.size+1,s1.heap.objs.size+2],_,_,H1,rfl,I1.kept (t':=s1.toks) kp,gS l1 l2 _ _ _ _ _ (zipApart_new lt1 lt2),⟨g1,g2,⟨.none,.none,g3⟩,g4,g5⟩,fun b hb=>?_,q⟩;have hb':s1.heap.objs.size<=b:=by
    simp only[yP,qc,or_false] at hb;rcases hb with rfl|rfl|rfl|rfl|rfl
    ·exact qV _ _
    ·exact qV _ _
    ·exact yo _
    ·exact qV _ _
    ·exact qV _ _
   exact I1.fpOk hb' (I1.hok.fresh hb')
end
end L2
namespace My
def G (a b:Int):Int:=((Int.gcd a b:Nat):Int)
theorem G_end {a:Int}(ha:0<=a):G a 0=a:=by
 show((Int.gcd a 0:Nat):Int)=a;rw[Int.gcd_zero_right];omega
theorem G_turn {a b:Int}(ha:0<=a)(hb:0<b):G b (Int.fmod a b)=G a b:=by
 unfold G;rw[Qp a (yz hb)];obtain⟨m,rfl⟩:=Qc ha;obtain⟨n,rfl⟩:=Qc (yz hb);show((Nat.gcd (n:Int).natAbs ((m:Int) % (n:Int)).natAbs:Nat):Int)=((Nat.gcd (m:Int).natAbs (n:Int).natAbs:Nat):Int)
 have e:((m:Int) % (n:Int)).natAbs=m % n:=by omega
 rw[e,jk,jk,Nat.gcd_comm m n,Nat.gcd_comm n (m % n),←Nat.gcd_rec]
theorem G_pos {a b:Int}(hb:0<b):0<G a b:=by
 have:0<Int.gcd a b:=Int.gcd_pos_of_ne_zero_right a (by omega);unfold G;omega
theorem num_share {t b:Int}(hb:0<b):Int.fdiv t (G t b)=(Rat.divInt t b).num:=by
 rw[y7 _ (yz (G_pos hb)),Rat.num_divInt,Int.sign_eq_one_of_pos hb,Int.one_mul];unfold G;rw[Int.gcd_comm]
theorem den_share {t b:Int}(hb:0<b):Int.fdiv b (G t b)=((Rat.divInt t b).den:Int):=by
 rw[y7 _ (yz (G_pos hb)),Rat.den_divInt,yd (show ¬ b=0 by omega),qX,Int.natAbs_of_nonneg (yz hb)];unfold G;rw[Int.gcd_comm]
theorem wc (q:Rat):(q.den:Int)≠0:=by have:=q.den_pos;omega
theorem den_pos' (q:Rat):(0:Int)<q.den:=by have:=q.den_pos;omega
theorem q_add (p q:Rat):Rat.divInt (p.num*q.den+q.num*p.den) (p.den*q.den)=p+q:=by
 rw[←Rat.divInt_add_divInt _ _ (wc p) (wc q),qw,qw]
theorem q_sub (p q:Rat):Rat.divInt (p.num*q.den - q.num*p.den) (p.den*q.den)=p - q:=by
 rw[←Rat.divInt_sub_divInt _ _ (wc p) (wc q),qw,qw]
theorem q_mul (p q:Rat):Rat.divInt (p.num*q.num) (p.den*q.den)=p*q:=by
 rw[←Rat.divInt_mul_divInt,qw,qw]
theorem q_div (p q:Rat):Rat.divInt (p.num*q.den) (p.den*q.num)=p / q:=by
 rw[←Rat.divInt_mul_divInt,qw,Qh,Rat.inv_def]
theorem q_lt (p q:Rat):p.num*q.den<q.num*p.den ↔ p<q:=(Rat.lt_iff p q).symm
theorem q_num_pos {q:Rat}(h:0<q):0<q.num:=by
 have h2:=(Rat.lt_iff 0 q).mp h;have e1:(0:Rat).num=0:=rfl;have e2:(0:Rat).den=1:=rfl;rw[e1,e2,Int.zero_mul] at h2;omega
theorem q_num_nn {q:Rat}(h:0<=q):0<=q.num:=Rat.num_nonneg.mpr h
theorem q_inj {p q:Rat}(h1:p.num=q.num)(h2:(p.den:Int)=q.den):p=q:=Rat.ext h1 (by omega)
end My
namespace L3
open PySem PySem.Spec PySem.Calls PyProof.Rows L2
inductive D where
 |non|bl (b:Bool)|int (i:Int)|str (x:Str)|raw (v:V)
 |tup (ds:List D)|lst (ds:List D)
 |dk (ks:List Key) (ds:List D)|dt (ks:List (List Key)) (ds:List D)
 |obj (C:Addr) (fs:List Str) (ds:List D)
 |exc (C:Addr)
 |scr (ns:List Int)
mutual
def Is (K:W.Frag)(H:Hp):D->V->Prop
 |.non,v=>v=.non
 |.bl b,v=>v=.bl b
 |.int i,v=>v=.int i
 |.str x,v=>v=.str x
 |.raw u,v=>v=u
 |.tup ds,v=>∃ a xs,v=.ref a/\SqT K H a xs/\IsL K H ds xs
 |.lst ds,v=>∃ a xs,v=.ref a/\Rd H a (.lst xs)/\IsL K H ds xs
 |.dk ks ds,v=>∃ a xs o,v=.ref a/\H a=some (.frz o (.dK (ks.zip xs)))/\ks.length=xs.length/\IsL K H ds xs
 |.dt ks ds,v=>∃ a xs,v=.ref a/\Rd H a (.dT (ks.zip xs))/\ks.length=xs.length/\IsL K H ds xs
 |.obj C fs ds,v=>∃ a dx xs,v=.ref a/\H a=some (.ins C dx (fs.zip xs))/\fs.length=xs.length/\IsL K H ds xs
 |.exc C,v=>∃ a,v=.ref a/\H a=some (AE a (.ref C))
 |.scr ns,v=>∃ a,v=.ref a/\SqL K H a (ns.map V.int)
def IsL (K:W.Frag)(H:Hp):List D->List V->Prop
 |[],xs=>xs=[]
 |d::ds,xs=>∃ x r,xs=x::r/\Is K H d x/\IsL K H ds r
end
section
variable {K:W.Frag}{H H':Hp}
theorem JY {a:Addr}{u:HO}(e:yW H H')(h:Rd H a u):Rd H' a u:=by
 rcases h with h|⟨o,h⟩
 ·exact .inl (e _ _ h)
 ·exact .inr ⟨o,e _ _ h⟩
theorem jo {a:Addr}{xs:List V}(e:yW H H')(h:SqT K H a xs):SqT K H' a xs:=by
 rcases h with (h|⟨o,h⟩)|h
 ·exact .inl (.inl (e _ _ h))
 ·exact .inl (.inr ⟨o,e _ _ h⟩)
 ·exact .inr h
mutual
theorem Is.mono (e:yW H H'):∀ {d:D} {v:V},Is K H d v->Is K H' d v
 |.non,_,h=>by simp only[Is] at h ⊢;exact h
 |.bl _,_,h=>by simp only[Is] at h ⊢;exact h
 |.int _,_,h=>by simp only[Is] at h ⊢;exact h
 |.str _,_,h=>by simp only[Is] at h ⊢;exact h
 |.raw _,_,h=>by simp only[Is] at h ⊢;exact h
 |.tup ds,_,h=>by simp only[Is] at h ⊢;obtain⟨a,xs,e1,e2,e3⟩:=h;exact⟨a,xs,e1,jo e e2,IsL.mono e e3⟩
 |.lst ds,_,h=>by simp only[Is] at h ⊢;obtain⟨a,xs,e1,e2,e3⟩:=h;exact⟨a,xs,e1,JY e e2,IsL.mono e e3⟩
 |.dk ks ds,_,h=>by simp only[Is] at h ⊢;obtain⟨a,xs,o,e1,e2,e4,e3⟩:=h;exact⟨a,xs,o,e1,e _ _ e2,e4,IsL.mono e e3⟩
 |.dt ks ds,_,h=>by simp only[Is] at h ⊢;obtain⟨a,xs,e1,e2,e4,e3⟩:=h;exact⟨a,xs,e1,JY e e2,e4,IsL.mono e e3⟩
 |.obj C fs ds,_,h=>by simp only[Is] at h ⊢;obtain⟨a,dx,xs,e1,e2,e4,e3⟩:=h;exact⟨a,dx,xs,e1,e _ _ e2,e4,IsL.mono e e3⟩
 |.exc C,_,h=>by simp only[Is] at h ⊢;obtain⟨a,e1,e2⟩:=h;exact⟨a,e1,e _ _ e2⟩
 |.scr ns,_,h=>by simp only[Is] at h ⊢;obtain⟨a,e1,e2⟩:=h;exact⟨a,e1,e.seq e2⟩
theorem IsL.mono (e:yW H H'):∀ {ds:List D} {xs:List V},IsL K H ds xs->IsL K H' ds xs
 |[],_,h=>by simp only[IsL] at h ⊢;exact h
 |d::ds,_,h=>by
  simp only[IsL] at h ⊢;obtain⟨x,r,e1,e2,e3⟩:=h;exact⟨x,r,e1,Is.mono e e2,IsL.mono e e3⟩
end
theorem IsL.nil:IsL K H [] []:=by simp only[IsL]
theorem IsL.cons {d:D}{ds:List D}{x:V}{xs:List V}(h:Is K H d x)(t:IsL K H ds xs):IsL K H (d::ds) (x::xs):=by
 simp only[IsL];exact⟨x,xs,rfl,h,t⟩
theorem IsL.len:∀ {ds:List D} {xs:List V},IsL K H ds xs->xs.length=ds.length
 |[],_,h=>by simp only[IsL] at h;subst h;rfl
 |d::ds,_,h=>by
  simp only[IsL] at h;obtain⟨x,r,rfl,_,t⟩:=h;simp[IsL.len t]
theorem IsL.get:∀ {ds:List D} {xs:List V} {i:Nat} {d:D},IsL K H ds xs->ds[i]?=some d->∃ x,xs[i]?=some x/\Is K H d x
 |[],_,_,_,_,e=>by simp at e
 |d::ds,_,0,d',h,e=>by
  simp only[IsL] at h;obtain⟨x,r,rfl,h1,_⟩:=h;simp at e;subst e;exact⟨x,rfl,h1⟩
 |d::ds,_,i+1,d',h,e=>by
  simp only[IsL] at h;obtain⟨x,r,rfl,_,t⟩:=h;exact IsL.get (i:=i) t (by simpa using e)
theorem IsL.append:∀ {ds es:List D} {xs ys:List V},IsL K H ds xs->IsL K H es ys->IsL K H (ds++es) (xs++ys)
 |[],_,_,_,h,t=>by simp only[IsL] at h;subst h;exact t
 |d::ds,es,_,ys,h,t=>by
  simp only[IsL] at h;obtain⟨x,r,rfl,h1,h2⟩:=h;exact IsL.cons h1 (IsL.append h2 t)
theorem IsL.take:∀ {ds:List D} {xs:List V} (n:Nat),IsL K H ds xs->IsL K H (ds.take n) (xs.take n)
 |_,_,0,_=>by simpa using IsL.nil
 |[],_,n+1,h=>by simp only[IsL] at h;subst h;simpa using IsL.nil
 |d::ds,_,n+1,h=>by
  simp only[IsL] at h;obtain⟨x,r,rfl,h1,h2⟩:=h;exact IsL.cons h1 (IsL.take n h2)
theorem IsL.drop:∀ {ds:List D} {xs:List V} (n:Nat),IsL K H ds xs->IsL K H (ds.drop n) (xs.drop n)
 |_,_,0,h=>by simpa using h
 |[],_,n+1,h=>by simp only[IsL] at h;subst h;simpa using IsL.nil
 |d::ds,_,n+1,h=>by
  simp only[IsL] at h;obtain⟨x,r,rfl,h1,h2⟩:=h;exact IsL.drop n h2
theorem IsL.set:∀ {ds:List D} {xs:List V} (i:Nat) {d:D} {x:V},IsL K H ds xs->Is K H d x->IsL K H (ds.set i d) (xs.set i x)
 |[],_,_,_,_,h,_=>by simp only[IsL] at h;subst h;simpa using IsL.nil
 |d::ds,_,0,_,_,h,hx=>by
  simp only[IsL] at h;obtain⟨x,r,rfl,h1,h2⟩:=h;exact IsL.cons hx h2
 |d::ds,_,i+1,_,_,h,hx=>by
  simp only[IsL] at h;obtain⟨x,r,rfl,h1,h2⟩:=h;exact IsL.cons h1 (IsL.set i h2 hx)
theorem IsL.get_none {ds:List D}{xs:List V}{i:Nat}(h:IsL K H ds xs)(e:ds[i]?=none):xs[i]?=none:=by
 have:=h.len;rw[yt] at e ⊢;omega
theorem IsL.get' {ds:List D}{xs:List V}{i:Nat}{x:V}(h:IsL K H ds xs)(e:xs[i]?=some x):∃ d,ds[i]?=some d/\Is K H d x:=by
 cases q:ds[i]? with
 |none=>rw[h.get_none q] at e;cases e
 |some d=>
  obtain⟨y,e1,e2⟩:=h.get q;rw[e] at e1;cases e1;exact⟨d,rfl,e2⟩
theorem IsL.of_ints:∀ {ns:List Int} {xs:List V},IsL K H (ns.map D.int) xs->xs=ns.map V.int
 |[],_,h=>by simp only[QB,IsL] at h;subst h;rfl
 |n::ns,_,h=>by
  simp only[yy,IsL] at h;obtain⟨x,r,rfl,h1,h2⟩:=h;simp only[Is] at h1;rw[h1,IsL.of_ints h2];rfl
end
structure Pur (F H F' H':Hp):Prop where
 ff:yW F F'
 fh:yW F' H'
 hh:yW H H'
 new:∀ b,F' b≠none->F b≠none∨H b=none
theorem Pur.refl {F H:Hp}(h:yW F H):Pur F H F H:=⟨yW.refl _,h,yW.refl _,fun _ q=>.inl q⟩
theorem Pur.trans {F H F1 H1 F2 H2:Hp}(a:Pur F H F1 H1)(b:Pur F1 H1 F2 H2):Pur F H F2 H2:=
 ⟨a.ff.trans b.ff,b.fh,a.hh.trans b.hh,fun c q=>(b.new c q).elim (fun z=>a.new c z) fun z=>.inr (a.hh.free z)⟩
theorem Pur.lay {F H:Hp}(h:yW F H){p:Addr}{o:HO}(hp:H p=none):Pur F H (upd F p o) (upd H p o):=by
 have fp:F p=none:=h.free hp;refine⟨fun b u e=>?_,fun b u e=>?_,fun b u e=>?_,fun b q=>?_⟩
 ·rw[yA (yZ e fp)];exact e
 ·by_cases hb:b=p
  ·subst hb;rw[yN] at e ⊢;exact e
  ·rw[yA hb] at e ⊢;exact h _ _ e
 ·rw[yA (yZ e hp)];exact e
 ·by_cases hb:b=p
  ·subst hb;exact .inr hp
  ·rw[yA hb] at q;exact .inl q
theorem Pur.layOwn {F H:Hp}(h:yW F H){p:Addr}{o:HO}(hp:H p=none):Pur F H F (upd H p o):=by
 refine⟨yW.refl _,fun b u e=>?_,fun b u e=>?_,fun b q=>.inl q⟩
 ·rw[yA (yZ (h _ _ e) hp)];exact h _ _ e
 ·rw[yA (yZ e hp)];exact e
def Sl (K:W.Frag)(F:Hp)(Γ:List (Option D))(σ:L2.St):Prop:=∀ (i:Nat) (d:D),Γ[i]?=some (some d)->∃ v,σ[i]?=some (some v)/\Is K F d v
theorem Sl.mono {K:W.Frag}{F F':Hp}{Γ:List (Option D)}{σ:L2.St}(h:Sl K F Γ σ)(e:yW F F'):Sl K F' Γ σ:=fun i d q=>by
 obtain⟨v,h1,h2⟩:=h i d q;exact⟨v,h1,h2.mono e⟩
def tP (K:W.Frag)(Γ:List (Option D))(d:D):TE:=fun σ H Q=>∃ F,yW F H/\Sl K F Γ σ/\∀ v H' F',Pur F H F' H'->Is K F' d v->Q v H'
def tPT (K:W.Frag)(Γ:List (Option D))(b:Bool):TT:=fun σ H Q=>∃ F,yW F H/\Sl K F Γ σ/\∀ H' F',Pur F H F' H'->Q b H'
def tPL (K:W.Frag)(Γ:List (Option D))(ds:List D):TA:=fun σ H Q=>∃ F,yW F H/\Sl K F Γ σ/\∀ vs H' F',Pur F H F' H'->IsL K F' ds vs->Q vs H'
def P3 (X:Cx)(Γ:List (Option D))(e:Expr)(d:D):Prop:=PE X e (tP X.K Γ d)
def PT3 (X:Cx)(Γ:List (Option D))(e:Expr)(b:Bool):Prop:=PT X e (tPT X.K Γ b)
def PL3 (X:Cx)(Γ:List (Option D))(es:List Expr)(ds:List D):Prop:=PA X es (tPL X.K Γ ds)
def PF3 (X:Cx)(Γ:List (Option D))(e:Expr)(ds:List D):Prop:=PE X e fun σ H Q=>∃ F,yW F H/\Sl X.K F Γ σ/\∀ p xs H' F',Pur F H F' H'->H p=none->F' p=none->H' p=some (.lst xs)->IsL X.K F' ds xs->Q (.ref p) H'
theorem PE.of {X:Cx}{e:Expr}{t u:TE}(h:PE X e t)(i:∀ σ H Q,u σ H Q->t σ H Q):PE X e u:=fun pins s σ H Q I hq=>h pins s σ H Q I (i _ _ _ hq)
theorem PT.of {X:Cx}{e:Expr}{t u:TT}(h:PT X e t)(i:∀ σ H Q,u σ H Q->t σ H Q):PT X e u:=fun pins s σ H Q I hq=>h pins s σ H Q I (i _ _ _ hq)
theorem PA.of {X:Cx}{e:List Expr}{t u:TA}(h:PA X e t)(i:∀ σ H Q,u σ H Q->t σ H Q):PA X e u:=fun p pins s σ H Q I hq=>h p pins s σ H Q I (i _ _ _ hq)
section
variable {X:Cx}{Γ:List (Option D)}{a b c:Expr}{d d':D}{pos:Pos}
theorem nz {i:Nat}{x:Str}(hN:X.N[i]?=some x)(hv:Vis X.env.scope x)(hΓ:Γ[i]?=some (some d))(hd:(x==("__debug__" : Str))=false:=by decide)(hcd:(x==("__classdict__" : Str))=false:=by decide):P3 X Γ (.Name x pos) d:=
 PE.of (aI hN hv hd hcd) fun σ H Q ⟨F,fh,sl,k⟩=>by
  obtain⟨v,e,h⟩:=sl i d hΓ;exact⟨v,e,k v H F (Pur.refl fh) h⟩
theorem pq (i:Nat){x:Str}(h3:Γ[i]? =some (some d))(h1:X.N[i]? =some x:=by rfl)(h2:X.env.scope.names.lookup x=some .local:=by rfl)(hd:(x==("__debug__":Str))=false:=by decide)(hc:(x==("__classdict__":Str))=false:=by decide):P3 X Γ (.Name x pos) d:=nz h1 (.inl h2) h3 hd hc
theorem pqc (i:Nat){x:Str}(h3:Γ[i]? =some (some d))(h1:X.N[i]? =some x:=by rfl)(h2:X.env.scope.names.lookup x=some .cell:=by rfl)(hd:(x==("__debug__":Str))=false:=by decide)(hc:(x==("__classdict__":Str))=false:=by decide):P3 X Γ (.Name x pos) d:=nz h1 (.inr (.inl h2)) h3 hd hc
theorem yB {i j}:P3 X Γ (.Constant (.int i) j pos) (.int i):=PE.of pd fun σ H Q ⟨F,fh,sl,k⟩=>k _ H F (Pur.refl fh) (by simp only[Is])
theorem sQ {i j}:P3 X Γ (.Constant (.bool i) j pos) (.bl i):=PE.of sv fun σ H Q ⟨F,fh,sl,k⟩=>k _ H F (Pur.refl fh) (by simp only[Is])
theorem UN {i j}:P3 X Γ (.Constant (.str i) j pos) (.str i):=PE.of oK fun σ H Q ⟨F,fh,sl,k⟩=>k _ H F (Pur.refl fh) (by simp only[Is])
theorem o7 {x:Str}{v:V}{u:Value}(hg:Gl X x)(hm:X.mg x=some u)(r:YA v u)(hi:∀ F,Is X.K F d v)(hd:(x==("__debug__" : Str))=false:=by decide):P3 X Γ (.Name x pos) d:=
 PE.of (lT hg hm r hd) fun σ H Q ⟨F,fh,sl,k⟩=>k _ H F (Pur.refl fh) (hi F)
theorem tP2 {K:W.Frag}{σ:L2.St}{H:Hp}{R:V->V->Hp->Prop}(h:∃ F,yW F H/\Sl K F Γ σ/\∀ x y H2 F2,Pur F H F2 H2->Is K F2 d x->Is K F2 d' y->R x y H2) :
  tP K Γ d σ H fun x H1=>tP K Γ d' σ H1 fun y H2=>R x y H2:=by
 obtain⟨F,fh,sl,k⟩:=h;exact⟨F,fh,sl,fun x H1 F1 p1 i1=>⟨F1,p1.fh,sl.mono p1.ff,fun y H2 F2 p2 i2=>k x y H2 F2 (p1.trans p2) (i1.mono p2.ff) i2⟩⟩
theorem eJ {op:Operator}{r:R2}{d3:D}(ho:OpR X (binaryOp op) r)(ha:P3 X Γ a d)(hb:P3 X Γ b d')(hr:∀ x y H F Q,yW F H->Is X.K F d x->Is X.K F d' y->(∀ v H' F',Pur F H F' H'->Is X.K F' d3 v->Q v H')->r x y H Q):P3 X Γ (.BinOp a op b pos) d3:=
 PE.of (nJ ho ha hb) fun σ H Q ⟨F,fh,sl,k⟩=>tP2 ⟨F,fh,sl,fun x y H2 F2 p i1 i2=>hr x y H2 F2 Q p.fh i1 i2 fun v H' F' p' i=>k v H' F' (p.trans p') i⟩
theorem isI {K:W.Frag}{F:Hp}{i:Int}{v:V}(h:Is K F (.int i) v):v=.int i:=by simp only[Is] at h;exact h
theorem isS {K:W.Frag}{F:Hp}{i:Str}{v:V}(h:Is K F (.str i) v):v=.str i:=by simp only[Is] at h;exact h
theorem isB {K:W.Frag}{F:Hp}{i:Bool}{v:V}(h:Is K F (.bl i) v):v=.bl i:=by simp only[Is] at h;exact h
theorem isR {K:W.Frag}{F:Hp}{i v:V}(h:Is K F (.raw i) v):v=i:=by simp only[Is] at h;exact h
theorem fA {op:Operator}{C:Int->Int->Prop}{g:Int->Int->V}{i j:Int}{d3:D}(ho:OpR X (binaryOp op) (rI C g))(ha:P3 X Γ a (.int i))(hb:P3 X Γ b (.int j))(hc:C i j)(h3:∀ F,Is X.K F d3 (g i j)):P3 X Γ (.BinOp a op b pos) d3:=
 eJ ho ha hb fun x y H F Q fh i1 i2 k=>⟨i,j,isI i1,isI i2,hc,k _ H F (Pur.refl fh) (h3 F)⟩
theorem gA {op:Operator}{g:Int->Int->V}{i j:Int}{d3:D}(ho:OpR X (binaryOp op) (rI0 g))(ha:P3 X Γ a (.int i))(hb:P3 X Γ b (.int j))(h3:∀ F,Is X.K F d3 (g i j)):P3 X Γ (.BinOp a op b pos) d3:=
 eJ ho ha hb fun x y H F Q fh i1 i2 k=>⟨i,j,isI i1,isI i2,k _ H F (Pur.refl fh) (h3 F)⟩
theorem Jw {K:W.Frag}{i:Int}:∀ F,Is K F (.int i) (.int i):=fun _=>by simp only[Is]
theorem Wk {K:W.Frag}{i:Bool}:∀ F,Is K F (.bl i) (.bl i):=fun _=>by simp only[Is]
theorem xz {K:W.Frag}{i:Str}:∀ F,Is K F (.str i) (.str i):=fun _=>by simp only[Is]
theorem Vz {K:W.Frag}{i:V}:∀ F,Is K F (.raw i) i:=fun _=>by simp only[Is]
theorem cm {K:W.Frag}:∀ F,Is K F .non .non:=fun _=>by simp only[Is]
variable {i j:Int}
theorem Jq (ha:P3 X Γ a (.int i))(hb:P3 X Γ b (.int j)):P3 X Γ (.BinOp a .Add b pos) (.int (i+j)):=gA rU ha hb Jw
theorem nA (ha:P3 X Γ a (.int i))(hb:P3 X Γ b (.int j)):P3 X Γ (.BinOp a .Sub b pos) (.int (i - j)):=gA rL ha hb Jw
theorem Jv (ha:P3 X Γ a (.int i))(hb:P3 X Γ b (.int j))(h:IntMulOk i j):P3 X Γ (.BinOp a .Mult b pos) (.int (i*j)):=fA nq ha hb h Jw
theorem Z0 (ha:P3 X Γ a (.int i))(hb:P3 X Γ b (.int j))(h:0<j):P3 X Γ (.BinOp a .Mod b pos) (.int (i % j)):=fA rn ha hb h Jw
theorem jf (py:Pyl X)(ha:P3 X Γ a (.int i))(hb:P3 X Γ b (.int j))(h:0<j):P3 X Γ (.BinOp a .FloorDiv b pos) (.int (i / j)):=
 fA (d8 py) ha hb (by omega) (fun F=>by rw[y7 _ (yz h)];exact Jw F)
end
theorem iH {K:W.Frag}{F:Hp}{ds:List D}{xs:List V}{i:Int}{d:D}(h:IsL K F ds xs)(e:atI ds i=some d):∃ x,atI xs i=some x/\Is K F d x:=by
 unfold atI at e ⊢;rw[h.len];cases q:ixN ds.length i with
 |none=>rw[q] at e;cases e
 |some j=>
  rw[q] at e;exact h.get (i:=j) e
section
variable {X:Cx}{Γ:List (Option D)}{a b c:Expr}{d d':D}{pos:Pos}{i:Int}{ds:List D}
theorem aY {r:R2}{d3:D}(ho:IxR X r)(ha:P3 X Γ a d)(hb:P3 X Γ b d')(hr:∀ x y H F Q,yW F H->Is X.K F d x->Is X.K F d' y->(∀ v H' F',Pur F H F' H'->Is X.K F' d3 v->Q v H')->r x y H Q)(hs:vJ b):P3 X Γ (.Subscript a b pos) d3:=
 PE.of (tJ ho ha hb hs) fun σ H Q ⟨F,fh,sl,k⟩=>tP2 ⟨F,fh,sl,fun x y H2 F2 p i1 i2=>hr x y H2 F2 Q p.fh i1 i2 fun v H' F' p' i=>k v H' F' (p.trans p') i⟩
theorem Yg (ha:P3 X Γ a (.tup ds))(hb:P3 X Γ b (.int i))(he:atI ds i=some d)(hs:vJ b:=by exact fun _ _=>rfl):P3 X Γ (.Subscript a b pos) d:=
 aY rR ha hb (fun x y H F Q fh i1 i2 k=>by
  simp only[Is] at i1 i2;obtain⟨p,xs,rfl,h1,h2⟩:=i1;obtain⟨v,e1,e2⟩:=iH h2 he;exact⟨p,xs,i,v,rfl,i2,jo fh h1,e1,k v H F (Pur.refl fh) e2⟩) hs
theorem QS (ha:P3 X Γ a (.lst ds))(hb:P3 X Γ b (.int i))(he:atI ds i=some d)(hs:vJ b:=by exact fun _ _=>rfl):P3 X Γ (.Subscript a b pos) d:=
 aY bp ha hb (fun x y H F Q fh i1 i2 k=>by
  simp only[Is] at i1 i2;obtain⟨p,xs,rfl,h1,h2⟩:=i1;obtain⟨v,e1,e2⟩:=iH h2 he;exact⟨p,xs,i,v,rfl,i2,.inl (JY fh h1),e1,k v H F (Pur.refl fh) e2⟩) hs
theorem sw {x:Str}{c:Nat}(ha:P3 X Γ a (.str x))(hb:P3 X Γ b (.int i))(hz:x.length<=sizeLine)(he:atI x.cps.toList i=some c)(hs:vJ b:=by exact fun _ _=>rfl):P3 X Γ (.Subscript a b pos) (.str ⟨#[c]⟩):=
 aY ox ha hb (fun x' y H F Q fh i1 i2 k=>by
  simp only[Is] at i1 i2;exact⟨x,i,c,i1,i2,hz,he,k _ H F (Pur.refl fh) (xz F)⟩) hs
variable {e:Expr}{es:List Expr}
theorem yn:PL3 X Γ [] []:=PA.of uf fun σ H Q ⟨F,fh,sl,k⟩=>k [] H F (Pur.refl fh) IsL.nil
theorem yb (ha:P3 X Γ e d)(hr:PL3 X Γ es ds)(hs:starEach (e::es) X.env=(false,eval e X.env)::starEach es X.env:=by rfl):PL3 X Γ (e::es) (d::ds):=
 PA.of (vP ha hr hs) fun σ H Q ⟨F,fh,sl,k⟩=>⟨F,fh,sl,fun x H1 F1 p1 i1=>⟨F1,p1.fh,sl.mono p1.ff,fun xs H2 F2 p2 i2=>k (x::xs) H2 F2 (p1.trans p2) (IsL.cons (i1.mono p2.ff) i2)⟩⟩
theorem QE {x1}(h:PL3 X Γ es ds)(hz:ds.length<=sizeLine:=by (simp only[yI,Qd];decide)):P3 X Γ (.Tuple es x1 pos) (.tup ds):=
 PE.of (aM h) fun σ H Q ⟨F,fh,sl,k⟩=>⟨F,fh,sl,fun xs H1 F1 p1 i1=>⟨by rw[i1.len];exact hz,fun p hp=>k _ _ _ (p1.trans (Pur.lay p1.fh hp)) (by
  simp only[Is];exact⟨p,xs,rfl,.inl (.inl yN),i1.mono (Pur.lay p1.fh hp).ff⟩)⟩⟩
theorem ZD (h:PL3 X Γ es ds)(hz:ds.length<=sizeLine:=by (simp only[yI,Qd];decide)):PF3 X Γ (.List es pos) ds:=
 PE.of (oM h) fun σ H Q ⟨F,fh,sl,k⟩=>⟨F,fh,sl,fun xs H1 F1 p1 i1=>⟨by rw[i1.len];exact hz,fun p hp=>k p xs _ F1 (p1.trans (Pur.layOwn p1.fh hp)) (p1.hh.free hp) (p1.fh.free hp) yN i1⟩⟩
theorem PF3.p (h:PF3 X Γ e ds):P3 X Γ e (.lst ds):=PE.of h fun σ H Q ⟨F,fh,sl,k⟩=>⟨F,fh,sl,fun p xs H' F' pu hp fp e i=>by
 have w:yW F' (upd F' p (.lst xs)):=fun b u q=>by rw[yA (yZ q fp)];exact q
 have wf:yW (upd F' p (.lst xs)) H':=fun b u q=>by
  by_cases hb:b=p
  ·subst hb;rw[yN] at q;cases q;exact e
  ·rw[yA hb] at q;exact pu.fh _ _ q
 have w2:Pur F H (upd F' p (.lst xs)) H':=by
  refine⟨pu.ff.trans w,wf,pu.hh,fun b q=>?_⟩;by_cases hb:b=p
  ·subst hb;exact .inr hp
  ·rw[yA hb] at q;exact pu.new b q
 exact k _ _ _ w2 (by simp only[Is];exact⟨p,xs,rfl,.inl yN,i.mono w⟩)⟩
theorem nC (h:PL3 X Γ es ds)(hz:ds.length<=sizeLine:=by (simp only[yI,Qd];decide)):P3 X Γ (.List es pos) (.lst ds):=(ZD h hz).p
end
mutual
def Y2:D->D->Bool
 |.non,.non=>true
 |.bl a,.bl b=>a==b
 |.int a,.int b=>a==b
 |.str a,.str b=>a==b
 |.tup a,.tup b=>J2 a b
 |.lst a,.lst b=>J2 a b
 |_,_=>false
def J2:List D->List D->Bool
 |[],[]=>true
 |a::as,b::bs=>Y2 a b&&J2 as bs
 |_,_=>false
end
mutual
def pln:D->Bool
 |.non=>true
 |.bl _=>true
 |.int _=>true
 |.str _=>true
 |.tup a=>va a
 |.lst a=>va a
 |_=>false
def va:List D->Bool
 |[]=>true
 |a::as=>pln a&&va as
end
mutual
def kin:D->D->Bool
 |.non,.non=>true
 |.bl _,.bl _=>true
 |.int _,.int _=>true
 |.str _,.str _=>true
 |.tup a,.tup b=>J1 a b
 |.lst a,.lst b=>J1 a b
 |_,_=>false
def J1:List D->List D->Bool
 |a::as,b::bs=>kin a b&&J1 as bs
 |_,_=>true
end
mutual
def dep:D->Nat
 |.tup a=>Zc a+1
 |.lst a=>Zc a+1
 |_=>0
def Zc:List D->Nat
 |[]=>0
 |a::as=>max (dep a) (Zc as)
end
theorem zK {d e:D}(h:kin d e=true):(d=.non/\e=.non)∨(∃ a b,d=.bl a/\e=.bl b)∨(∃ a b,d=.int a/\e=.int b)∨(∃ a b,d=.str a/\e=.str b)∨(∃ a b,d=.tup a/\e=.tup b/\J1 a b=true)∨(∃ a b,d=.lst a/\e=.lst b/\J1 a b=true):=by
 rw[kin.eq_def] at h;split at h
 ·exact .inl ⟨rfl,rfl⟩
 ·exact .inr (.inl ⟨_,_,rfl,rfl⟩)
 ·exact .inr (.inr (.inl ⟨_,_,rfl,rfl⟩))
 ·exact .inr (.inr (.inr (.inl ⟨_,_,rfl,rfl⟩)))
 ·exact .inr (.inr (.inr (.inr (.inl ⟨_,_,rfl,rfl,h⟩))))
 ·exact .inr (.inr (.inr (.inr (.inr ⟨_,_,rfl,rfl,h⟩))))
 ·exact absurd h (by decide)
mutual
theorem Zg:∀ {d:D},pln d=true->Y2 d d=true
 |.non,_=>by simp[Y2]
 |.bl _,_=>by simp[Y2]
 |.int _,_=>by simp[Y2]
 |.str _,_=>by simp[Y2]
 |.tup a,h=>by rw[Y2];rw[pln] at h;exact ki h
 |.lst a,h=>by rw[Y2];rw[pln] at h;exact ki h
 |.raw _,h=>by simp[pln] at h
 |.dk _ _,h=>by simp[pln] at h
 |.dt _ _,h=>by simp[pln] at h
 |.obj _ _ _,h=>by simp[pln] at h
 |.exc _,h=>by simp[pln] at h
 |.scr _,h=>by simp[pln] at h
theorem ki:∀ {d:List D},va d=true->J2 d d=true
 |[],_=>by simp[J2]
 |a::as,h=>by
  rw[va,Yr] at h;rw[J2,Zg h.1,ki h.2];rfl
end
mutual
theorem Kk:∀ {d e:D},Y2 d e=true->d=e
 |.non,e,h=>by cases e <;> simp[Y2] at h ⊢
 |.bl _,e,h=>by cases e <;> simp[Y2] at h ⊢;exact h
 |.int _,e,h=>by cases e <;> simp[Y2] at h ⊢;exact h
 |.str _,e,h=>by cases e <;> simp[Y2] at h ⊢;exact h
 |.tup a,e,h=>by cases e <;> simp only[Y2,YO] at h;rw[Wg h]
 |.lst a,e,h=>by cases e <;> simp only[Y2,YO] at h;rw[Wg h]
 |.raw _,e,h=>by cases e <;> simp[Y2] at h
 |.dk _ _,e,h=>by cases e <;> simp[Y2] at h
 |.dt _ _,e,h=>by cases e <;> simp[Y2] at h
 |.obj _ _ _,e,h=>by cases e <;> simp[Y2] at h
 |.exc _,e,h=>by cases e <;> simp[Y2] at h
 |.scr _,e,h=>by cases e <;> simp[Y2] at h
theorem Wg:∀ {d e:List D},J2 d e=true->d=e
 |[],e,h=>by cases e <;> simp[J2] at h ⊢
 |a::as,e,h=>by
  cases e with
  |nil=>simp[J2] at h
  |cons b bs=>
   rw[J2,Yr] at h;rw[Kk h.1,Wg h.2]
end
theorem bC {d e:D}(h:d≠e):Y2 d e=false:=by
 cases q:Y2 d e with
 |false=>rfl
 |true=>exact absurd (Kk q) h
theorem VF:∀ (ds es:List D),ds.length=es.length->((List.range ds.length).all fun j=>Y2 (ds.getD j .non) (es.getD j .non))=J2 ds es
 |[],[],_=>by simp[J2]
 |[],_::_,h=>by simp at h
 |_::_,[],h=>by simp at h
 |a::as,b::bs,h=>by
  have ih:=VF as bs (by simpa using h);rw[J2,←ih,yI,List.range_succ_eq_map,List.all_cons,List.all_map];rfl
theorem Vv:∀ {ds es:List D},ds.length≠es.length->J2 ds es=false
 |[],[],h=>absurd rfl h
 |[],_::_,_=>by simp[J2]
 |_::_,[],_=>by simp[J2]
 |a::as,b::bs,h=>by
  rw[J2,Vv (ds:=as) (es:=bs) (fun z=>h (by simp[z])),Bool.and_false]
theorem Kz:∀ {ds es:List D} {i:Nat} {d e:D},J1 ds es=true->ds[i]?=some d->es[i]?=some e->kin d e=true
 |[],_,_,_,_,_,h,_=>by simp at h
 |_::_,[],_,_,_,_,_,h=>by simp at h
 |a::as,b::bs,0,d,e,h,h1,h2=>by
  simp at h1 h2;subst h1 h2;rw[J1,Yr] at h;exact h.1
 |a::as,b::bs,i+1,d,e,h,h1,h2=>by
  rw[J1,Yr] at h;exact Kz (i:=i) h.2 (by simpa using h1) (by simpa using h2)
theorem wE:∀ {ds:List D} {i:Nat} {d:D},ds[i]?=some d->dep d<=Zc ds
 |[],_,_,h=>by simp at h
 |a::as,0,d,h=>by simp at h;subst h;rw[Zc];exact QP _ _
 |a::as,i+1,d,h=>by
  rw[Zc];exact Ye (wE (i:=i) (by simpa using h)) (Q0 _ _)
section
variable {X:Cx}{pins:List (Addr×Obj)}{σ:L2.St}{H:Hp}{s:Shared}
theorem Is.same (I:Inv X pins σ H s):∀ (n:Nat) {v:V} {d e:D},dep d<=n->kin d e=true->Is X.K H d v->Is X.K H e v->d=e:=by
  intro n
  induction n with
  |zero=>
    intro v d e hn hk h h';rcases zK hk with ⟨rfl,rfl⟩|⟨_,_,rfl,rfl⟩|⟨_,_,rfl,rfl⟩|⟨_,_,rfl,rfl⟩|⟨_,_,rfl,rfl,hk⟩|⟨_,_,rfl,rfl,hk⟩ <;> simp only[Is] at h h' <;> first
      |rfl
      | (rw[h] at h';injection h' with z;rw[z];done)
      | (rw[dep] at hn;omega)
  |succ n ih=>
    intro v d e hn hk h h';have go:∀ {ds es:List D} {xs:List V},Zc ds<=n->J1 ds es=true->IsL X.K H ds xs->IsL X.K H es xs->ds=es:=by
      intro ds es xs hd hks h1 h2;have l1:=h1.len;have l2:=h2.len;refine qe fun i=>?_;cases q:xs[i]? with
      |none=>
        have z:xs.length<=i:=yt.mp q;rw[yt.mpr (by omega),yt.mpr (by omega)]
      |some v=>
        obtain⟨d,e1,i1⟩:=h1.get' q;obtain⟨e,e2,i2⟩:=h2.get' q;rw[e1,e2,ih (Ye (wE e1) hd) (Kz hks e1 e2) i1 i2]
    rcases zK hk with ⟨rfl,rfl⟩|⟨_,_,rfl,rfl⟩|⟨_,_,rfl,rfl⟩|⟨_,_,rfl,rfl⟩|⟨_,_,rfl,rfl,hk⟩|⟨_,_,rfl,rfl,hk⟩ <;> simp only[Is] at h h' <;> first
      |rfl
      | (rw[h] at h';injection h' with z;rw[z];done)
      | (rw[dep] at hn
         obtain⟨a,xs,rfl,s1,i1⟩:=h;obtain⟨a',ys,e',s2,i2⟩:=h';cases e'
         first
         | (cases I.tuple_inj s1 s2;rw[go (by omega) hk i1 i2];done)
         | (cases I.list_inj (.inl s1) (.inl s2);rw[go (by omega) hk i1 i2];done))
def VB (ds es:List D)(j:Nat):Bool:=Y2 (ds.getD j .non) (es.getD j .non)
theorem Vq {xs ys:List V}{ds es:List D}{us vs:List Value}{A:Around}(r1:YN xs us)(r2:YN ys vs)(h1:IsL X.K H ds xs)(h2:IsL X.K H es ys)
  (hk:J1 ds es=true) {n:Nat} (hn:Zc ds<=n)
  (ih:∀ (x y:V) (d e:D) (u v:Value),dep d<=n->Is X.K H d x->Is X.K H e y->kin d e=true->YA x u->YA y v->SeqAt.EqAt A s u v (Y2 d e)) :
  ∀ j (q1:j<us.toArray.size) (q2:j<vs.toArray.size),SeqAt.EqAt A s us.toArray[j] vs.toArray[j] (VB ds es j):=by
 intro j q1 q2;have e1:=r1.length;have e2:=r2.length;have l1:=h1.len;have l2:=h2.len;have p1:j<us.length:=by simpa using q1
 have p2:j<vs.length:=by simpa using q2
 have x1:xs[j]?=some (xs[j]'(by omega)):=ym _;have y1:ys[j]?=some (ys[j]'(by omega)):=ym _;obtain⟨d,d1,i1⟩:=h1.get' x1;obtain⟨e,c1,i2⟩:=h2.get' y1;obtain⟨u,hu,ru⟩:=r1.get x1;obtain⟨v,hv,rv⟩:=r2.get y1;have z1:us.toArray[j]=u:=by
  have:us[j]?=some (us[j]'p1):=ym _;rw[hu] at this;simpa using (Option.some.inj this).symm
 have z2:vs.toArray[j]=v:=by
  have:vs[j]?=some (vs[j]'p2):=ym _;rw[hv] at this;simpa using (Option.some.inj this).symm
 rw[z1,z2];unfold VB;rw[yM,yM,d1,c1];exact ih _ _ _ _ u v (Ye (wE d1) hn) i1 i2 (Kz hk d1 c1) ru rv
theorem eP {xs ys:List V}{ds es:List D}{us vs:List Value}(r1:YN xs us)(r2:YN ys vs)(h1:IsL X.K H ds xs)(h2:IsL X.K H es ys) :
  ((List.range (min us.toArray.size vs.toArray.size)).all (VB ds es)&&us.toArray.size==vs.toArray.size)=J2 ds es:=by
 have e1:=r1.length;have e2:=r2.length;have l1:=h1.len;have l2:=h2.len;simp only[yJ];by_cases hl:us.length=vs.length
 ·rw[←hl,Nat.min_self,beq_self_eq_true,Bool.and_true,←e1,l1];exact VF ds es (by omega)
 ·rw[Vv (by omega),show(us.length==vs.length)=false by simpa using hl,Bool.and_false]
theorem aV {a b:Addr}{xs ys:List V}{ds es:List D}{A:Around}(I:Inv X pins σ H s)(hx:SqT X.K H a xs)(hy:SqT X.K H b ys)(h1:IsL X.K H ds xs)(h2:IsL X.K H es ys)(hu:A.units<cLine)
  (hk:J1 ds es=true) {n:Nat} (hn:Zc ds<=n)
  (ih:∀ (x y:V) (d e:D) (u v:Value),dep d<=n->Is X.K H d x->Is X.K H e y->kin d e=true->YA x u->YA y v->SeqAt.EqAt A.in1 s u v (Y2 d e)):SeqAt.RcAt A s (.ref a) (.ref b) (J2 ds es):=by
 obtain⟨us,r1,t1,_⟩:=I.tuple hx;obtain⟨vs,r2,t2,_⟩:=I.tuple hy;have z:=SeqAt.RcAt.tuples (show s.heap.IsTuple a us.toArray from t1) (show s.heap.IsTuple b vs.toArray from t2) hu (Vq r1 r2 h1 h2 hk hn ih);rw[eP r1 r2 h1 h2] at z;exact z
theorem bd {a b:Addr}{xs ys:List V}{ds es:List D}{A:Around}(I:Inv X pins σ H s)(hx:SqL X.K H a xs)(hy:SqL X.K H b ys)(h1:IsL X.K H ds xs)(h2:IsL X.K H es ys)(hu:A.units<cLine)
  (hk:J1 ds es=true) {n:Nat} (hn:Zc ds<=n)
  (ih:∀ (x y:V) (d e:D) (u v:Value),dep d<=n->Is X.K H d x->Is X.K H e y->kin d e=true->YA x u->YA y v->SeqAt.EqAt A.in1 s u v (Y2 d e)):SeqAt.RcAt A s (.ref a) (.ref b) (J2 ds es):=by
 obtain⟨us,r1,t1,_⟩:=I.list hx;obtain⟨vs,r2,t2,_⟩:=I.list hy;have e1:=r1.length;have e2:=r2.length;have l1:=h1.len;have l2:=h2.len;by_cases hl:us.length=vs.length
 ·have z:=SeqAt.RcAt.lists t1.isList t2.isList (by simpa using hl) hu (Vq r1 r2 h1 h2 hk hn ih);have q:(List.range us.toArray.size).all (VB ds es)=J2 ds es:=by
   simp only[yJ];rw[←e1,l1];exact VF ds es (by omega)
  rw[q] at z;exact z
 ·rw[Vv (by omega)];exact SeqAt.RcAt.lists_lengths t1.isList t2.isList (by simpa using hl) hu
theorem no {a b:Addr}{xs ys:List V}{ds es:List D}{A:Around}(I:Inv X pins σ H s)(hx:SqT X.K H a xs)(hy:SqT X.K H b ys)(h1:IsL X.K H ds xs)(h2:IsL X.K H es ys)(hu:A.units<cLine)
  (hk:J1 ds es=true) {n:Nat} (hn:Zc ds<=n)
  (ih:∀ (x y:V) (d e:D) (u v:Value),dep d<=n->Is X.K H d x->Is X.K H e y->kin d e=true->YA x u->YA y v->SeqAt.EqAt A.in1 s u v (Y2 d e)):SeqAt.RcNeAt A s (.ref a) (.ref b) (!J2 ds es):=by
 obtain⟨us,r1,t1,_⟩:=I.tuple hx;obtain⟨vs,r2,t2,_⟩:=I.tuple hy;have z:=SeqAt.RcNeAt.tuples (show s.heap.IsTuple a us.toArray from t1) (show s.heap.IsTuple b vs.toArray from t2) hu (Vq r1 r2 h1 h2 hk hn ih);rw[eP r1 r2 h1 h2] at z;exact z
theorem lR {a b:Addr}{xs ys:List V}{ds es:List D}{A:Around}(I:Inv X pins σ H s)(hx:SqL X.K H a xs)(hy:SqL X.K H b ys)(h1:IsL X.K H ds xs)(h2:IsL X.K H es ys)(hu:A.units<cLine)
  (hk:J1 ds es=true) {n:Nat} (hn:Zc ds<=n)
  (ih:∀ (x y:V) (d e:D) (u v:Value),dep d<=n->Is X.K H d x->Is X.K H e y->kin d e=true->YA x u->YA y v->SeqAt.EqAt A.in1 s u v (Y2 d e)):SeqAt.RcNeAt A s (.ref a) (.ref b) (!J2 ds es):=by
 obtain⟨us,r1,t1,_⟩:=I.list hx;obtain⟨vs,r2,t2,_⟩:=I.list hy;have e1:=r1.length;have e2:=r2.length;have l1:=h1.len;have l2:=h2.len;by_cases hl:us.length=vs.length
 ·have z:=SeqAt.RcNeAt.lists t1.isList t2.isList (by simpa using hl) hu (Vq r1 r2 h1 h2 hk hn ih);have q:(List.range us.toArray.size).all (VB ds es)=J2 ds es:=by
   simp only[yJ];rw[←e1,l1];exact VF ds es (by omega)
  rw[q] at z;exact z
 ·rw[Vv (by omega)];exact SeqAt.RcNeAt.lists_lengths t1.isList t2.isList (by simpa using hl) hu
theorem Xm:∀ (n:Nat) {d e:D},dep d<=n->kin d e=true->d=e->pln d=true:=by
 intro n
 induction n with
 |zero=>intro d e hn hk he;subst he;cases d <;> simp[kin] at hk <;> first|(simp[pln];done)|(rw[dep] at hn;omega)
 |succ n ih=>
  intro d e hn hk he;subst he;have go:∀ {ds:List D},Zc ds<=n->J1 ds ds=true->va ds=true:=by
   intro ds
   induction ds with
   |nil=>intro _ _;simp[va]
   |cons a as ih2=>
    intro hd hks;rw[Zc] at hd;rw[J1,Yr] at hks;rw[va,ih (by omega) hks.1 rfl,ih2 (by omega) hks.2];rfl
  cases d <;> simp[kin] at hk <;> first
   | (simp[pln];done)
   | (rw[dep] at hn;rw[pln];exact go (by omega) hk)
theorem XS (I:Inv X pins σ H s):∀ (n:Nat) (A:Around),A.units+n<cLine->∀ (x y:V) (d e:D) (u v:Value),dep d<=n->Is X.K H d x->Is X.K H e y->kin d e=true->YA x u->YA y v->SeqAt.EqAt A s u v (Y2 d e):=by
  intro n
  induction n with
  |zero=>
    intro A hA x y d e u v hn hx hy hk rx ry;rcases zK hk with ⟨rfl,rfl⟩|⟨_,_,rfl,rfl⟩|⟨_,_,rfl,rfl⟩|⟨_,_,rfl,rfl⟩|⟨_,_,rfl,rfl,hk⟩|⟨_,_,rfl,rfl,hk⟩ <;> simp only[Is] at hx hy <;> first
      | (subst hx hy;cases rx;cases ry;rw[Y2];exact SeqAt.EqAt.same _)
      | (subst hx hy;cases rx;cases ry;rw[Y2];exact SeqAt.EqAt.bool_bool _ _)
      | (subst hx hy;obtain⟨t,rfl⟩:=rx;obtain⟨t',rfl⟩:=ry;rw[Y2];exact SeqAt.EqAt.int_int _ _ _ _)
      | (subst hx hy;obtain⟨t,rfl⟩:=rx;obtain⟨t',rfl⟩:=ry;rw[Y2];exact SeqAt.EqAt.str_str _ _ _ _)
      | (rw[dep] at hn;omega)
  |succ n ih=>
    intro A hA x y d e u v hn hx hy hk rx ry;have hu:A.units<cLine:=by omega
    have hA':A.in1.units+n<cLine:=by
      show A.units+1+n<cLine;omega
    by_cases hxy:d=e/\x=y
    · obtain⟨rfl,rfl⟩:=hxy;have hp:=Xm (n+1) hn hk rfl;rw[Zg hp];cases d <;> simp[kin] at hk <;> simp only[Is] at hx <;> first
        | (subst hx;cases rx;cases ry;exact SeqAt.EqAt.same _)
        | (subst hx;obtain⟨t,rfl⟩:=rx;obtain⟨t',rfl⟩:=ry;have z:=SeqAt.EqAt.int_int (A:=A) (s:=s) (by assumption) t (by assumption) t';simpa using z)
        | (subst hx;rename_i i;obtain⟨t,rfl⟩:=rx;obtain⟨t',rfl⟩:=ry;have z:=SeqAt.EqAt.int_int (A:=A) (s:=s) i t i t';simpa using z)
        | (subst hx;rename_i i;obtain⟨t,rfl⟩:=rx;obtain⟨t',rfl⟩:=ry;have z:=SeqAt.EqAt.str_str (A:=A) (s:=s) i t i t';simpa using z)
        | (obtain⟨a,xs,rfl,_,_⟩:=hx;cases rx;cases ry;exact SeqAt.EqAt.same _)
    · have key:=fun (x y:V) (d e:D) (u v:Value) p q r s' t w=>ih A.in1 hA' x y d e u v p q r s' t w;have sm:=fun (h:x=y)=>Is.same I (n+1) hn hk hx (h▸hy);rcases zK hk with ⟨rfl,rfl⟩|⟨_,_,rfl,rfl⟩|⟨_,_,rfl,rfl⟩|⟨_,_,rfl,rfl⟩|⟨_,_,rfl,rfl,hk⟩|⟨_,_,rfl,rfl,hk⟩ <;> simp only[Is] at hx hy <;> first
        | (subst hx hy;cases rx;cases ry;rw[Y2];exact SeqAt.EqAt.same _)
        | (subst hx hy;cases rx;cases ry;rw[Y2];exact SeqAt.EqAt.bool_bool _ _)
        | (subst hx hy;obtain⟨t,rfl⟩:=rx;obtain⟨t',rfl⟩:=ry;rw[Y2];exact SeqAt.EqAt.int_int _ _ _ _)
        | (subst hx hy;obtain⟨t,rfl⟩:=rx;obtain⟨t',rfl⟩:=ry;rw[Y2];exact SeqAt.EqAt.str_str _ _ _ _)
        | (rw[dep] at hn
           obtain⟨a,xs,rfl,s1,i1⟩:=hx;obtain⟨b,ys,rfl,s2,i2⟩:=hy;cases rx;cases ry;have hab:a≠b:=fun z=>hxy ⟨sm (by rw[z]),by rw[z]⟩;rw[Y2]
           first
           |exact SeqAt.EqAt.of_refs hab (aV I s1 s2 i1 i2 hu hk (by omega) key)
           |exact SeqAt.EqAt.of_refs hab (bd I (.inl s1) (.inl s2) i1 i2 hu hk (by omega) key))
end
def tD (K:W.Frag)(neg:Bool):R2:=fun x y H Q=>∃ d e,Is K H d x/\Is K H e y/\kin d e=true/\dep d<=60/\Q (.bl (if neg then !Y2 d e else Y2 d e)) H
section
variable {X:Cx}
theorem oQ (hu:X.A.units+64<cLine):OpR X (compareOp .Eq) (tD X.K false):=by
  intro pins s σ H x y v u Q I rx ry h;obtain⟨d,e,h1,h2,hk,hn,q⟩:=h;have hu0:X.A.units<cLine:=by omega
  have key:=fun (x y:V) (d e:D) (u v:Value) p q r s' t w=>XS (s:=s) I 60 X.A.in1 (by show X.A.units+1+60<cLine;omega) x y d e u v p q r s' t w;have sc:nh x y=true->(decide (x=y))=Y2 d e->wpAny (model X.prog X.w) X.A (compareOp .Eq v u) (EP X pins σ Q) X.xe s:=fun hs hb=>
    gw pins s σ H x y v u Q I rx ry ⟨hs,by rw[hb];exact q⟩
  rcases zK hk with ⟨rfl,rfl⟩|⟨_,_,rfl,rfl⟩|⟨_,_,rfl,rfl⟩|⟨_,_,rfl,rfl⟩|⟨_,_,rfl,rfl,hk⟩|⟨_,_,rfl,rfl,hk⟩ <;> simp only[Is] at h1 h2 <;> first
    | (subst h1 h2;exact sc rfl (by first|(simp[Y2];done)|(rw[Y2,Yq];simp)))
    | (rw[dep] at hn
       obtain⟨a,xs,rfl,s1,i1⟩:=h1;obtain⟨b,ys,rfl,s2,i2⟩:=h2;cases rx;cases ry;simp only[Y2,YO,if_false] at q
       first
       |exact aV (A:=X.A) I s1 s2 i1 i2 hu0 hk (by omega) key X.prog X.w X.xe _ ⟨.bl _,H,I,rfl,q⟩
       |exact bd (A:=X.A) I (.inl s1) (.inl s2) i1 i2 hu0 hk (by omega) key X.prog X.w X.xe _ ⟨.bl _,H,I,rfl,q⟩)
theorem rm (hu:X.A.units+64<cLine):OpR X (compareOp .NotEq) (tD X.K true):=by
  intro pins s σ H x y v u Q I rx ry h;obtain⟨d,e,h1,h2,hk,hn,q⟩:=h;have hu0:X.A.units<cLine:=by omega
  have key:=fun (x y:V) (d e:D) (u v:Value) p q r s' t w=>XS (s:=s) I 60 X.A.in1 (by show X.A.units+1+60<cLine;omega) x y d e u v p q r s' t w;have sc:nh x y=true->(decide (x=y))=Y2 d e->wpAny (model X.prog X.w) X.A (compareOp .NotEq v u) (EP X pins σ Q) X.xe s:=fun hs hb=>
    sN pins s σ H x y v u Q I rx ry ⟨hs,by rw[hb];exact q⟩
  rcases zK hk with ⟨rfl,rfl⟩|⟨_,_,rfl,rfl⟩|⟨_,_,rfl,rfl⟩|⟨_,_,rfl,rfl⟩|⟨_,_,rfl,rfl,hk⟩|⟨_,_,rfl,rfl,hk⟩ <;> simp only[Is] at h1 h2 <;> first
    | (subst h1 h2;exact sc rfl (by first|(simp[Y2];done)|(rw[Y2,Yq];simp)))
    | (rw[dep] at hn
       obtain⟨a,xs,rfl,s1,i1⟩:=h1;obtain⟨b,ys,rfl,s2,i2⟩:=h2;cases rx;cases ry;simp only[Y2,if_true] at q
       first
       |exact no (A:=X.A) I s1 s2 i1 i2 hu0 hk (by omega) key X.prog X.w X.xe _ ⟨.bl _,H,I,rfl,q⟩
       |exact lR (A:=X.A) I (.inl s1) (.inl s2) i1 i2 hu0 hk (by omega) key X.prog X.w X.xe _ ⟨.bl _,H,I,rfl,q⟩)
end
def C3 (X:Cx)(Γ:List (Option D))(a:Expr)(op:CmpOp)(b:Expr)(k:Bool):Prop:=∃ (r:R2) (ta tb:TE),OpR X (compareOp op) r/\PE X a ta/\PE X b tb/\
 ∀ (σ:L2.St) (H:Hp) (Q:VK),(∃ F,yW F H/\Sl X.K F Γ σ/\∀ H' F',Pur F H F' H'->Q (.bl k) H')->tOp r ta tb σ H Q
section
variable {X:Cx}{Γ:List (Option D)}{a b c:Expr}{d d':D}{pos:Pos}{op:CmpOp}{k:Bool}
theorem Vw (h:C3 X Γ a op b k)(hm:behindInMarks op b=false:=by first|exact Xf _|with_unfolding_all rfl):P3 X Γ (.Compare a [op] [b] pos) (.bl k):=by
 obtain⟨r,ta,tb,ho,ha,hb,q⟩:=h;exact PE.of (mK ho ha hb hm) fun σ H Q ⟨F,fh,sl,kk⟩=>q σ H Q ⟨F,fh,sl,fun H' F' p=>kk _ H' F' p (Wk _)⟩
theorem qm (h:C3 X Γ a op b k)(hm:behindInMarks op b=false:=by first|exact Xf _|with_unfolding_all rfl):PT3 X Γ (.Compare a [op] [b] pos) k:=by
 obtain⟨r,ta,tb,ho,ha,hb,q⟩:=h;exact PT.of (bz ho ha hb hm) fun σ H Q ⟨F,fh,sl,kk⟩=>q σ H _ ⟨F,fh,sl,fun H' F' p=>⟨k,rfl,kk H' F' p⟩⟩
theorem c_R {r:R2}(ho:OpR X (compareOp op) r)(ha:P3 X Γ a d)(hb:P3 X Γ b d')(hr:∀ x y H F Q,yW F H->Is X.K F d x->Is X.K F d' y->Q (.bl k) H->r x y H Q):C3 X Γ a op b k:=
 ⟨r,_,_,ho,ha,hb,fun σ H Q ⟨F,fh,sl,q⟩=>tP2 ⟨F,fh,sl,fun x y H2 F2 p i1 i2=>hr x y H2 F2 Q p.fh i1 i2 (q H2 F2 p)⟩⟩
variable {i j:Int}
theorem c_I {g:Int->Int->Bool}(ho:OpR X (compareOp op) (rI0 fun i j=>.bl (g i j)))(ha:P3 X Γ a (.int i))(hb:P3 X Γ b (.int j)):C3 X Γ a op b (g i j):=
 c_R ho ha hb fun x y H F Q fh i1 i2 q=>⟨i,j,isI i1,isI i2,q⟩
theorem cw (ha:P3 X Γ a (.int i))(hb:P3 X Γ b (.int j)):C3 X Γ a .Lt b (decide (i<j)):=c_I sf ha hb
theorem KO (ha:P3 X Γ a (.int i))(hb:P3 X Γ b (.int j)):C3 X Γ a .Gt b (decide (j<i)):=c_I sr ha hb
theorem An (ha:P3 X Γ a (.int i))(hb:P3 X Γ b (.int j)):C3 X Γ a .GtE b (decide (j<=i)):=c_I sd ha hb
theorem U8 (ha:P3 X Γ a (.int i))(hb:P3 X Γ b (.int j)):C3 X Γ a .Eq b (decide (i=j)):=
 c_R gw ha hb fun x y H F Q fh i1 i2 q=>by
  cases isI i1;cases isI i2;exact⟨rfl,by simpa only[V.int.injEq] using q⟩
theorem cc {i j:Str}(ha:P3 X Γ a (.str i))(hb:P3 X Γ b (.str j)):C3 X Γ a .Eq b (decide (i=j)):=
 c_R gw ha hb fun x y H F Q fh i1 i2 q=>by
  cases isS i1;cases isS i2;exact⟨rfl,by simpa only[V.str.injEq] using q⟩
theorem af (hu:X.A.units+64<cLine)(ha:P3 X Γ a d)(hb:P3 X Γ b d')(hk:kin d d'=true)(hd:dep d<=60):C3 X Γ a .Eq b (Y2 d d'):=
 c_R (oQ hu) ha hb fun x y H F Q fh i1 i2 q=>⟨d,d',i1.mono fh,i2.mono fh,hk,hd,q⟩
theorem Xi (hu:X.A.units+64<cLine)(ha:P3 X Γ a d)(hb:P3 X Γ b d')(hk:kin d d'=true)(hd:dep d<=60):C3 X Γ a .NotEq b (!Y2 d d'):=
 c_R (rm hu) ha hb fun x y H F Q fh i1 i2 q=>⟨d,d',i1.mono fh,i2.mono fh,hk,hd,q⟩
theorem Z4 {e:Expr}(h:P3 X Γ e (.bl k))(he:∀ whole,isTrue e X.env whole=(do let v ←whole;standAt e.pos;holding [v] (truthy v)):=by intro _;rfl):PT3 X Γ e k:=
 PT.of (o9 h he) fun σ H Q ⟨F,fh,sl,q⟩=>⟨F,fh,sl,fun v H' F' p i=>⟨k,isB i,q H' F' p⟩⟩
theorem bJ (h:PT3 X Γ a k):PT3 X Γ (.UnaryOp .Not a pos) (!k):=PT.of (oA h) fun σ H Q ⟨F,fh,sl,q⟩=>⟨F,fh,sl,q⟩
def PW3 (X:Cx)(Γ:List (Option D))(e:Expr)(k:Bool):Prop:=PW X e (tPT X.K Γ k)
theorem PW.of {X:Cx}{e:Expr}{t u:TT}(h:PW X e t)(i:∀ σ H Q,u σ H Q->t σ H Q):PW X e u:=fun w pins s σ H Q I hq=>h w pins s σ H Q I (i _ _ _ hq)
theorem PW3.t {e:Expr}(h:PW3 X Γ e k):PT3 X Γ e k:=PW.pt h
theorem wd (h:PT3 X Γ a k):PW3 X Γ (.BoolOp .And [a] pos) k:=mS h
theorem av (h:PT3 X Γ a k):PW3 X Γ (.BoolOp .Or [a] pos) k:=re h
theorem nK {e:Expr}:PW X e fun _ _ _=>False:=fun _ _ _ _ _ _ _ h=>h.elim
theorem bj {e:Expr}:PE X e fun _ _ _=>False:=fun _ _ _ _ _ _ h=>h.elim
variable {k':Bool}{rest:List Expr}
theorem Xp (ha:PT3 X Γ a k)(hb:k=true->PW3 X Γ (.BoolOp .And (b::rest) pos) k'):PW3 X Γ (.BoolOp .And (a::b::rest) pos) (k&&k'):=by
 cases k with
 |true=>exact PW.of (eF ha (hb rfl)) fun σ H Q ⟨F,fh,sl,q⟩=>⟨F,fh,sl,fun H' F' p=>by dsimp only;rw[ye rfl];exact⟨F',p.fh,sl.mono p.ff,fun H2 F2 p2=>q H2 F2 (p.trans p2)⟩⟩
 |false=>exact PW.of (eF ha nK) fun σ H Q ⟨F,fh,sl,q⟩=>⟨F,fh,sl,fun H' F' p=>by dsimp only;rw[yd yw];exact q H' F' p⟩
theorem hW (ha:PT3 X Γ a k)(hb:k=false->PW3 X Γ (.BoolOp .Or (b::rest) pos) k'):PW3 X Γ (.BoolOp .Or (a::b::rest) pos) (k||k'):=by
 cases k with
 |false=>exact PW.of (nT ha (hb rfl)) fun σ H Q ⟨F,fh,sl,q⟩=>⟨F,fh,sl,fun H' F' p=>by dsimp only;rw[yd yw];exact⟨F',p.fh,sl.mono p.ff,fun H2 F2 p2=>q H2 F2 (p.trans p2)⟩⟩
 |true=>exact PW.of (nT ha nK) fun σ H Q ⟨F,fh,sl,q⟩=>⟨F,fh,sl,fun H' F' p=>by dsimp only;rw[ye rfl];exact q H' F' p⟩
theorem xl {op:BoolOp}(h:P3 X Γ a d):P3 X Γ (.BoolOp op [a] pos) d:=pM h
theorem aU (ha:P3 X Γ a (.bl k))(hb:k=true->P3 X Γ (.BoolOp .And (b::rest) pos) (.bl k')):P3 X Γ (.BoolOp .And (a::b::rest) pos) (.bl (k&&k')):=by
 cases k with
 |true=>exact PE.of (gE ha (hb rfl)) fun σ H Q ⟨F,fh,sl,q⟩=>⟨F,fh,sl,fun v H' F' p i=>⟨true,isB i,by rw[ye rfl];exact⟨F',p.fh,sl.mono p.ff,fun v2 H2 F2 p2 i2=>q v2 H2 F2 (p.trans p2) i2⟩⟩⟩
 |false=>exact PE.of (gE ha bj) fun σ H Q ⟨F,fh,sl,q⟩=>⟨F,fh,sl,fun v H' F' p i=>⟨false,isB i,by dsimp only;rw[yd yw];exact q _ H' F' p (Wk F')⟩⟩
theorem sZ (ha:P3 X Γ a (.bl k))(hb:k=false->P3 X Γ (.BoolOp .Or (b::rest) pos) (.bl k')):P3 X Γ (.BoolOp .Or (a::b::rest) pos) (.bl (k||k')):=by
 cases k with
 |false=>exact PE.of (nW ha (hb rfl)) fun σ H Q ⟨F,fh,sl,q⟩=>⟨F,fh,sl,fun v H' F' p i=>⟨false,isB i,by rw[yd yw];exact⟨F',p.fh,sl.mono p.ff,fun v2 H2 F2 p2 i2=>q v2 H2 F2 (p.trans p2) i2⟩⟩⟩
 |true=>exact PE.of (nW ha bj) fun σ H Q ⟨F,fh,sl,q⟩=>⟨F,fh,sl,fun v H' F' p i=>⟨true,isB i,by dsimp only;rw[ye rfl];exact q _ H' F' p (Wk F')⟩⟩
theorem bB (hc:PT3 X Γ c k)(ha:k=true->P3 X Γ a d)(hb:k=false->P3 X Γ b d):P3 X Γ (.IfExp c a b pos) d:=by
 cases k with
 |true=>exact PE.of (xL hc (ha rfl) bj) fun σ H Q ⟨F,fh,sl,q⟩=>⟨F,fh,sl,fun H' F' p=>by dsimp only;rw[ye rfl];exact⟨F',p.fh,sl.mono p.ff,fun v2 H2 F2 p2 i2=>q v2 H2 F2 (p.trans p2) i2⟩⟩
 |false=>exact PE.of (xL hc bj (hb rfl)) fun σ H Q ⟨F,fh,sl,q⟩=>⟨F,fh,sl,fun H' F' p=>by dsimp only;rw[yd yw];exact⟨F',p.fh,sl.mono p.ff,fun v2 H2 F2 p2 i2=>q v2 H2 F2 (p.trans p2) i2⟩⟩
end
def spP (K:W.Frag)(n:Nat)(C:List D->D->Prop):Sp:=fun vs H Q _=>∃ ds d F,C ds d/\ds.length=n/\yW F H/\IsL K F ds vs/\∀ v H' F',Pur F H F' H'->Is K F' d v->Q v H'
theorem spP.len {K:W.Frag}{n:Nat}{C:List D->D->Prop}{vs:List V}{H:Hp}{Q:VK}{E:XK}(h:spP K n C vs H Q E):vs.length=n:=by
 obtain⟨ds,d,F,_,l,_,i,_⟩:=h;rw[i.len,l]
section
variable {X:Cx}{Γ:List (Option D)}{d:D}{ds:List D}{n k:Nat}{C:List D->D->Prop}{x:Str}{ps:List Str}{e:Expr}{es:List Expr}{p pos:Pos}
theorem yV (o:OkF X.prog X.w X.K X.mg X.base CX0 k x ps (spP X.K n C))(hr:Room k X.A)(hg:Gl X x)(ha:PL3 X Γ (e::es) ds)(hC:C ds d)(hn:ds.length=n:=by rfl)(hdb:(x==("__debug__" : Str))=false:=by decide)
  (he:starEach (e::es) X.env=(false,eval e X.env)::starEach es X.env:=by rfl) (hpl:(backTo pos (starEach es X.env)).any (·.1)=false:=by rfl):P3 X Γ (.Call (.Name x p) (e::es) [] pos) d:=
 PE.of (e6 o hr hg ha hdb he hpl) fun σ H Q ⟨F,fh,sl,q⟩=>⟨F,fh,sl,fun vs H' F' pu i=>by
  dsimp only;rw[y9];exact⟨ds,d,F',hC,hn,pu.fh,i,fun v H2 F2 p2 i2=>q v H2 F2 (pu.trans p2) i2⟩⟩
theorem ZO {id:String}{r:List V->Hp->VK->Prop}(hc:Vk X (.builtin id) r)(hg:Gl X x)(hm:X.mg x=none)(hv:bootBuiltins x=some (.builtin id))(ha:PL3 X Γ (e::es) ds)
  (hr:∀ vs H F Q,yW F H->IsL X.K F ds vs->(∀ v H' F',Pur F H F' H'->Is X.K F' d v->Q v H')->r vs H Q) (hn:x ≠ "__name__" :=by decide) (hdb:(x==("__debug__" : Str))=false:=by decide)
  (he:starEach (e::es) X.env=(false,eval e X.env)::starEach es X.env:=by rfl) (hpl:(backTo pos (starEach es X.env)).any (·.1)=false:=by rfl):P3 X Γ (.Call (.Name x p) (e::es) [] pos) d:=
 PE.of (iA hc hg hm hv ha hn hdb he hpl) fun σ H Q ⟨F,fh,sl,q⟩=>⟨F,fh,sl,fun vs H' F' pu i=>hr vs H' F' Q pu.fh i fun v H2 F2 p2 i2=>q v H2 F2 (pu.trans p2) i2⟩
end
theorem K5 {K:W.Frag}{F:Hp}{d:D}{vs:List V}(h:IsL K F [d] vs):∃ x,vs=[x]/\Is K F d x:=by
 simp only[IsL] at h;obtain⟨x,r,rfl,i,rfl⟩:=h;exact⟨x,rfl,i⟩
theorem pw {K:W.Frag}{F:Hp}{d e:D}{vs:List V}(h:IsL K F [d,e] vs):∃ x y,vs=[x,y]/\Is K F d x/\Is K F e y:=by
 simp only[IsL] at h;obtain⟨x,r,rfl,i,y,r2,rfl,i2,rfl⟩:=h;exact⟨x,y,rfl,i,i2⟩
theorem lb:∀ (n:Nat) {d e:D},dep d<=n->kin d e=true->kin e d=true:=by
 intro n
 induction n with
 |zero=>intro d e hn hk;rcases zK hk with ⟨rfl,rfl⟩|⟨_,_,rfl,rfl⟩|⟨_,_,rfl,rfl⟩|⟨_,_,rfl,rfl⟩|⟨_,_,rfl,rfl,hk⟩|⟨_,_,rfl,rfl,hk⟩ <;> rw[kin] <;> (rw[dep] at hn;omega)
 |succ n ih=>
  intro d e hn hk;have go:∀ {ds es:List D},Zc ds<=n->J1 ds es=true->J1 es ds=true:=by
   intro ds
   induction ds with
   |nil=>intro es _ _;cases es <;> simp[J1]
   |cons a as ih2=>
    intro es hd hks;cases es with
    |nil=>simp[J1]
    |cons b bs=>
     rw[Zc] at hd;rw[J1,Yr] at hks;rw[J1,ih (by omega) hks.1,ih2 (by omega) hks.2];rfl
  rcases zK hk with ⟨rfl,rfl⟩|⟨_,_,rfl,rfl⟩|⟨_,_,rfl,rfl⟩|⟨_,_,rfl,rfl⟩|⟨_,_,rfl,rfl,hk⟩|⟨_,_,rfl,rfl,hk⟩ <;> rw[kin] <;> (rw[dep] at hn;exact go (by omega) hk)
def tw (K:W.Frag):R2:=fun x y H Q=>∃ l b xs zs,x=.ref l/\y=.ref b/\SqL K H l xs/\SqL K H b zs/\xs.length+zs.length<=sizeLine/\∀ p,H p=none->Q (.ref p) (upd H p (.lst (xs++zs)))
section
variable {X:Cx}
theorem mh:OpR X (binaryOp .Add) (tw X.K):=by
 intro pins s σ H x y v u Q I rx ry h;obtain⟨l,b,xs,zs,rfl,rfl,hH,hB,hz,q⟩:=h;cases rx;cases ry;obtain⟨its,r,⟨o,n,e,c,dd,d⟩,z⟩:=I.list hH;obtain⟨its2,r2,⟨o2,n2,e2,c2,dd2,d2⟩,z2⟩:=I.list hB;obtain⟨oc,od,odt,osl⟩:=o;obtain⟨oc2,od2,odt2,osl2⟩:=o2;dsimp only at c dd d c2 dd2 d2;subst c dd d c2 dd2 d2;have hl:=r.length;have hl2:=r2.length;have ea:its.toArray++its2.toArray=(its++its2).toArray:=by simp
 refine concat_meets ⟨_,e,rfl⟩ ⟨_,e2,rfl⟩ noFill_list_add seq_list_add PySem.F.slot_list_add PySem.F.entry_list_add (PySem.F.args_list_add_2 _ _) (list_addW l b its.toArray its2.toArray n n2 none none osl osl2 (by rw[yJ,yJ];omega)) ⟨e,e2,?_⟩;rw[ea];exact⟨.ref _,_,I.lnew (t':=s.toks) (r.append r2) (by rw[Yh];omega),rfl,q _ I.fresh⟩
theorem c6 (hc:X.calm=true):Vk X (.builtin "sum") (fun xs H Q=>∃ (a:Addr) (ns:List Int),xs=[.ref a]/\SqL X.K H a (ns.map V.int)/\Q (.int ns.sum) H):=by
 intro pins s σ H xs us Q I r h;obtain⟨a,ns,rfl,hl,q⟩:=h;obtain⟨u,rfl,rx⟩:=UI r;cases rx;obtain⟨its,rv,p,_⟩:=I.list hl;have hi:IntsAre its ns:=XI rv;obtain⟨ys,hx⟩:=hi.allInts.items;have hl':s.heap.IsList a (intItems ys):=hx▸p.isList;refine sum_intListG (I.ok.hd hc) hl' fun h' tk t' hk=>?_;have e1:ns=ys.toList.map (·.1):=by
  rw[←nums_intItems,←hx];exact(show numsOf its.toArray.toList=ns from hi.numsOf).symm
 have e2:preSum (numAt ys) ys.size=ns.sum:=by
  rw[preSum_eq,List.take_of_length_le (by simp),e1]
 rw[e2];exact⟨.int ns.sum,H,I.kept hk,⟨_,rfl⟩,q⟩
def inD (x:D)(ds:List D):Bool:=ds.any fun y=>Y2 y x
def tu (K:W.Frag)(neg:Bool):R2:=fun x y H Q=>∃ p xs d ds,y=.ref p/\(SqL K H p xs∨SqT K H p xs)/\IsL K H ds xs/\Is K H d x/\(∀ e∈ds,kin e d=true/\dep e<=60)/\Q (.bl (if neg then !inD d ds else inD d ds)) H
open Classical in
noncomputable def Z2 (K:W.Frag)(H:Hp)(d:D)(ds:List D)(u:Value):Bool:=decide (∃ (e:D) (x:V),e∈ds/\YA x u/\Is K H e x/\Y2 e d=true)
open Classical in
theorem bo {K:W.Frag}{H:Hp}{d:D}{ds:List D}{u:Value}:Z2 K H d ds u=true ↔ ∃ (e:D) (x:V),e∈ds/\YA x u/\Is K H e x/\Y2 e d=true:=by
 unfold Z2;exact decide_eq_true_iff
theorem bi {K:W.Frag}{H:Hp}{d:D}{es:List D}:∀ {ds:List D} {xs:List V} {us:List Value},(∀ e∈ds,e∈es)->IsL K H ds xs->YN xs us->(∀ e e' x,e∈es->e'∈es->Is K H e x->Is K H e' x->Y2 e d=Y2 e' d)->
  us.any (Z2 K H d es)=ds.any fun y=>Y2 y d
 |[],_,_,_,h,r,_=>by simp only[IsL] at h;subst h;cases r;rfl
 |e::ds,_,_,hm,h,r,hs=>by
  simp only[IsL] at h;obtain⟨x,xs,rfl,i,h⟩:=h;cases r with
  |cons r1 r=>
   rename_i u us;rw[Ja,Ja,bi (fun e' q=>hm e' (yc _ q)) h r hs];congr 1;rw[Yq,bo];constructor
   ·rintro⟨e',x',m,r2,i2,b⟩;cases r2.inj r1;rw[←b];exact hs _ _ _ (hm e (by simp)) m i i2
   ·intro b;exact⟨e,x,hm e (by simp),r1,i,b⟩
theorem Kj {pins:List (Addr×Obj)}{s:Shared}{σ:L2.St}{H:Hp}{x:V}{v:Value}{xs:List V}{d:D}{ds:List D}{its:List Value}(hu:X.A.units+64<cLine)(I:Inv X pins σ H s)(rx:YA x v)(hi:IsL X.K H ds xs)(hd:Is X.K H d x)
  (hk:∀ e∈ds,kin e d=true/\dep e<=60) (r:YN xs its):(∀ w∈its,SeqAt.EqAt X.A.in1 s w v (Z2 X.K H d ds w))/\its.toArray.any (Z2 X.K H d ds)=inD d ds:=by
 have key:=fun (x y:V) (d e:D) (u v:Value) p q r s' t w=>XS (s:=s) I 60 X.A.in1 (by show X.A.units+1+60<cLine;omega) x y d e u v p q r s' t w;have one:∀ e e' x',e∈ds->e'∈ds->Is X.K H e x'->Is X.K H e' x'->Y2 e d=Y2 e' d:=fun e e' x' m m' i i'=>by
  obtain⟨k1,n1⟩:=hk e m;obtain⟨k2,n2⟩:=hk e' m';by_cases b:Y2 e d=true
  ·have ee:=Kk b;subst ee;have k3:kin e e'=true:=lb 60 n2 k2;rw[Is.same I 60 n1 k3 i i']
  ·by_cases b':Y2 e' d=true
   ·have ee:=Kk b';subst ee;rw[Is.same I 60 n1 k1 i i']
   ·rw[Qs.mpr b,Qs.mpr b']
 refine⟨fun w hw=>?_,?_⟩
 ·obtain⟨i,hl,rfl⟩:=List.getElem_of_mem hw;have hx:i<xs.length:=by rw[r.length];exact hl
  have x1:xs[i]?=some xs[i]:=ym hx;obtain⟨w',e1,r1⟩:=r.get x1;rw[ym hl] at e1;cases e1;obtain⟨e,e2,i2⟩:=hi.get' x1;have m:=yq e2;have z:=key _ _ _ _ _ _ (hk e m).2 i2 hd (hk e m).1 r1 rx;have:Z2 X.K H d ds its[i]=Y2 e d:=by
   rw[Yq,bo];constructor
   ·rintro⟨e',x',m',r2,i3,b⟩;cases r2.inj r1;rw[←b];exact one _ _ _ m m' i2 i3
   ·intro b;exact⟨e,_,m,r1,i2,b⟩
  rw[this];exact z
 ·rw[show its.toArray.any (Z2 X.K H d ds)=its.any (Z2 X.K H d ds) by simp,bi (fun _ z=>z) hi r one];rfl
theorem p9 (hu:X.A.units+64<cLine):OpR X (compareOp .In) (tu X.K false):=by
 intro pins s σ H x y v u Q I rx ry h;obtain⟨p,xs,d,ds,rfl,hq,hi,hd,hk,q⟩:=h;cases ry;rcases hq with hq|hq
 ·obtain⟨its,r,pl,hz⟩:=I.list hq;obtain⟨c1,c2⟩:=Kj hu I rx hi hd hk r;refine SeqAt.in_listAt (Z2 X.K H d ds) pl.isList (fun w hw=>c1 w (by simpa using hw)) ⟨.bl _,H,I,rfl,?_⟩;rw[c2];exact q
 ·obtain⟨its,r,pl,hz⟩:=I.tuple hq;obtain⟨c1,c2⟩:=Kj hu I rx hi hd hk r;refine SeqAt.in_tupleAt (Z2 X.K H d ds) pl (fun w hw=>c1 w (by simpa using hw)) ⟨.bl _,H,I,rfl,?_⟩;rw[c2];exact q
theorem dG (hu:X.A.units+64<cLine):OpR X (compareOp .NotIn) (tu X.K true):=by
 intro pins s σ H x y v u Q I rx ry h;obtain⟨p,xs,d,ds,rfl,hq,hi,hd,hk,q⟩:=h;cases ry;rcases hq with hq|hq
 ·obtain⟨its,r,pl,hz⟩:=I.list hq;obtain⟨c1,c2⟩:=Kj hu I rx hi hd hk r;refine SeqAt.notIn_listAt (Z2 X.K H d ds) pl.isList (fun w hw=>c1 w (by simpa using hw)) ⟨.bl _,H,I,rfl,?_⟩;rw[c2];exact q
 ·obtain⟨its,r,pl,hz⟩:=I.tuple hq;obtain⟨c1,c2⟩:=Kj hu I rx hi hd hk r;refine SeqAt.notIn_tupleAt (Z2 X.K H d ds) pl (fun w hw=>c1 w (by simpa using hw)) ⟨.bl _,H,I,rfl,?_⟩;rw[c2];exact q
end
section
variable {X:Cx}{Γ:List (Option D)}{a b c:Expr}{d d':D}{pos p:Pos}{ds es:List D}
theorem isT {K:W.Frag}{F:Hp}{v:V}(h:Is K F (.tup ds) v):∃ a xs,v=.ref a/\SqT K F a xs/\IsL K F ds xs:=by simpa only[Is] using h
theorem aA {K:W.Frag}{F:Hp}{v:V}(h:Is K F (.lst ds) v):∃ a xs,v=.ref a/\Rd F a (.lst xs)/\IsL K F ds xs:=by simpa only[Is] using h
theorem JK {K:W.Frag}{F:Hp}{v:V}(h:Is K F (.lst ds) v):∃ a xs,v=.ref a/\SqL K F a xs/\IsL K F ds xs:=by
 obtain⟨a,xs,e,r,i⟩:=aA h;exact⟨a,xs,e,.inl r,i⟩
theorem Is.tupI {K:W.Frag}{F:Hp}{a:Addr}{xs:List V}(h:SqT K F a xs)(i:IsL K F ds xs):Is K F (.tup ds) (.ref a):=by simp only[Is];exact⟨a,xs,rfl,h,i⟩
theorem Is.lstI {K:W.Frag}{F:Hp}{a:Addr}{xs:List V}(h:Rd F a (.lst xs))(i:IsL K F ds xs):Is K F (.lst ds) (.ref a):=by simp only[Is];exact⟨a,xs,rfl,h,i⟩
theorem rD (ha:P3 X Γ a (.lst ds))(hb:P3 X Γ b (.lst es))(hz:ds.length+es.length<=sizeLine):PF3 X Γ (.BinOp a .Add b pos) (ds++es):=
 PE.of (nJ mh ha hb) fun σ H Q ⟨F,fh,sl,k⟩=>tP2 ⟨F,fh,sl,fun x y H2 F2 p i1 i2=>by
  obtain⟨l,xs,rfl,s1,j1⟩:=JK i1;obtain⟨l2,ys,rfl,s2,j2⟩:=JK i2;exact⟨l,l2,xs,ys,rfl,rfl,p.fh.seq s1,p.fh.seq s2,by rw[j1.len,j2.len];exact hz,fun q hq=>k q _ _ F2 (p.trans (Pur.layOwn p.fh hq)) (p.hh.free hq) (p.fh.free hq) yN (j1.append j2)⟩⟩
theorem iP (ha:P3 X Γ a (.lst ds))(hb:P3 X Γ b (.lst es))(hz:ds.length+es.length<=sizeLine):P3 X Γ (.BinOp a .Add b pos) (.lst (ds++es)):=(rD ha hb hz).p
theorem ow {x y:Str}(ha:P3 X Γ a (.str x))(hb:P3 X Γ b (.str y))(hz:x.length+y.length<=sizeLine):P3 X Γ (.BinOp a .Add b pos) (.str (x++y)):=
 eJ ar ha hb fun v w H F Q fh i1 i2 k=>⟨x,y,isS i1,isS i2,hz,k _ _ _ (Pur.refl fh) (xz F)⟩
theorem Va (hm:X.mg "len" = none)(hg:Gl X "len")(ha:P3 X Γ a (.lst ds))(he:starEach [a] X.env=(false,eval a X.env)::starEach [] X.env:=by rfl):P3 X Γ (.Call (.Name "len" p) [a] [] pos) (.int ds.length):=
 ZO ZE hg hm PySem.boot_len (yb ha yn he) (fun vs H F Q fh i k=>by
  obtain⟨x,rfl,j0⟩:=K5 i;obtain⟨l,xs,rfl,s1,j1⟩:=JK j0;exact⟨l,xs,rfl,.inl (fh.seq s1),k _ _ _ (Pur.refl fh) (by rw[j1.len];exact Jw F)⟩) (by decide) (by decide) he
theorem zf (hm:X.mg "len" = none)(hg:Gl X "len")(ha:P3 X Γ a (.tup ds))(he:starEach [a] X.env=(false,eval a X.env)::starEach [] X.env:=by rfl):P3 X Γ (.Call (.Name "len" p) [a] [] pos) (.int ds.length):=
 ZO ZE hg hm PySem.boot_len (yb ha yn he) (fun vs H F Q fh i k=>by
  obtain⟨x,rfl,j0⟩:=K5 i;obtain⟨l,xs,rfl,s1,j1⟩:=isT j0;exact⟨l,xs,rfl,.inr (jo fh s1),k _ _ _ (Pur.refl fh) (by rw[j1.len];exact Jw F)⟩) (by decide) (by decide) he
theorem rO {ns:List Int}(hm:X.mg "len" = none)(hg:Gl X "len")(ha:P3 X Γ a (.scr ns))(he:starEach [a] X.env=(false,eval a X.env)::starEach [] X.env:=by rfl):P3 X Γ (.Call (.Name "len" p) [a] [] pos) (.int ns.length):=
 ZO ZE hg hm PySem.boot_len (yb ha yn he) (fun vs H F Q fh i k=>by
  obtain⟨x,rfl,j0⟩:=K5 i;simp only[Is] at j0;obtain⟨l,rfl,s1⟩:=j0;exact⟨l,_,rfl,.inl (fh.seq s1),k _ _ _ (Pur.refl fh) (by rw[yf];exact Jw F)⟩) (by decide) (by decide) he
theorem tf {ns:List Int}{i n:Int}(ha:P3 X Γ a (.scr ns))(hb:P3 X Γ b (.int i))(he:atI ns i=some n)(hs:vJ b:=by exact fun _ _=>rfl):P3 X Γ (.Subscript a b pos) (.int n):=
 aY bp ha hb (fun x y H F Q fh i1 i2 k=>by
  simp only[Is] at i1 i2;obtain⟨l,rfl,h1⟩:=i1;refine⟨l,_,i,.int n,rfl,i2,fh.seq h1,?_,k _ H F (Pur.refl fh) (Jw F)⟩;unfold atI at he ⊢;rw[yf];cases q:ixN ns.length i with
  |none=>rw[q] at he;cases he
  |some j=>
   rw[q] at he;have he':ns[j]?=some n:=he;show(ns.map V.int)[j]?=_;rw[yl,he'];rfl) hs
theorem px {x:Str}(hm:X.mg "len" = none)(hg:Gl X "len")(ha:P3 X Γ a (.str x))(hz:x.length<=sizeLine)(he:starEach [a] X.env=(false,eval a X.env)::starEach [] X.env:=by rfl):P3 X Γ (.Call (.Name "len" p) [a] [] pos) (.int x.length):=
 ZO Wm hg hm PySem.boot_len (yb ha yn he) (fun vs H F Q fh i k=>by
  obtain⟨v,rfl,j0⟩:=K5 i;exact⟨x,by rw[isS j0],hz,k _ _ _ (Pur.refl fh) (Jw F)⟩) (by decide) (by decide) he
theorem mF:bootBuiltins "dict" = some (.type "dict"):=by decide +kernel
theorem mP:bootBuiltins "list" = some (.type "list"):=by decide +kernel
theorem rW:bootBuiltins "sum" = some (.builtin "sum"):=by decide +kernel
theorem JZ (hm:X.mg "list" = none)(hg:Gl X "list")(ha:P3 X Γ a d)(hd:d=.lst ds∨d=.tup ds)(he:starEach [a] X.env=(false,eval a X.env)::starEach [] X.env:=by rfl):PF3 X Γ (.Call (.Name "list" p) [a] [] pos) ds:=
 PE.of (dP wX hg hm mP (yb ha yn he) (by decide) (by decide) he) fun σ H Q ⟨F,fh,sl,q⟩=>⟨F,fh,sl,fun vs H' F' pu i=>by
  obtain⟨x,rfl,j0⟩:=K5 i;rcases hd with rfl|rfl
  ·obtain⟨l,xs,rfl,s1,j1⟩:=JK j0;exact⟨l,xs,rfl,.inl (pu.fh.seq s1),fun l' hl=>q l' _ _ F' (pu.trans (Pur.layOwn pu.fh hl)) (pu.hh.free hl) (pu.fh.free hl) yN j1⟩
  ·obtain⟨l,xs,rfl,s1,j1⟩:=isT j0;exact⟨l,xs,rfl,.inr (jo pu.fh s1),fun l' hl=>q l' _ _ F' (pu.trans (Pur.layOwn pu.fh hl)) (pu.hh.free hl) (pu.fh.free hl) yN j1⟩⟩
theorem nM {ns:List Int}(hc:X.calm=true)(hm:X.mg "sum" = none)(hg:Gl X "sum")(ha:P3 X Γ a (.lst (ns.map D.int)))(he:starEach [a] X.env=(false,eval a X.env)::starEach [] X.env:=by rfl):P3 X Γ (.Call (.Name "sum" p) [a] [] pos) (.int ns.sum):=
 ZO (c6 hc) hg hm rW (yb ha yn he) (fun vs H F Q fh i k=>by
  obtain⟨x,rfl,j0⟩:=K5 i;obtain⟨l,xs,rfl,s1,j1⟩:=JK j0;have e:=IsL.of_ints j1;subst e;exact⟨l,ns,rfl,fh.seq s1,k _ _ _ (Pur.refl fh) (Jw F)⟩) (by decide) (by decide) he
theorem pB (hu:X.A.units+64<cLine)(ha:P3 X Γ a d)(hb:P3 X Γ b d')(hd:d'=.lst ds∨d'=.tup ds)(hk:∀ e∈ds,kin e d=true/\dep e<=60):C3 X Γ a .In b (inD d ds):=
 c_R (p9 hu) ha hb fun x y H F Q fh i1 i2 q=>by
  rcases hd with rfl|rfl
  ·obtain⟨l,xs,rfl,s1,j1⟩:=JK i2;exact⟨l,xs,d,ds,rfl,.inl (fh.seq s1),j1.mono fh,i1.mono fh,hk,q⟩
  ·obtain⟨l,xs,rfl,s1,j1⟩:=isT i2;exact⟨l,xs,d,ds,rfl,.inr (jo fh s1),j1.mono fh,i1.mono fh,hk,q⟩
theorem Kf (hu:X.A.units+64<cLine)(ha:P3 X Γ a d)(hb:P3 X Γ b d')(hd:d'=.lst ds∨d'=.tup ds)(hk:∀ e∈ds,kin e d=true/\dep e<=60):C3 X Γ a .NotIn b (!inD d ds):=
 c_R (dG hu) ha hb fun x y H F Q fh i1 i2 q=>by
  rcases hd with rfl|rfl
  ·obtain⟨l,xs,rfl,s1,j1⟩:=JK i2;exact⟨l,xs,d,ds,rfl,.inl (fh.seq s1),j1.mono fh,i1.mono fh,hk,q⟩
  ·obtain⟨l,xs,rfl,s1,j1⟩:=isT i2;exact⟨l,xs,d,ds,rfl,.inr (jo fh s1),j1.mono fh,i1.mono fh,hk,q⟩
end
structure Bs where
 M:List Addr
 F:Hp
 H:Hp
abbrev Ow:=Hp->HO->Prop
abbrev Om:=List (Addr×Ow)
abbrev Ga:=List (Option D)
def Q3 (K:W.Frag)(ds:List D):Ow:=fun F o=>∃ xs,o=.lst xs/\IsL K F ds xs
structure Sat (K:W.Frag)(B:Bs)(Γ:Ga)(Ω:Om)(F:Hp)(σ:L2.St)(H:Hp):Prop where
 f0:yW B.F F
 fh:yW F H
 fr:∀ b,F b≠none->B.F b≠none∨B.H b=none∨b∈B.M
 kp:∀ b o,b∉B.M->B.H b=some o->H b=some o
 nd:(Ω.map (·.1)).Nodup
 od:∀ p∈Ω,p.1∈B.M∨B.H p.1=none
 own:∀ p∈Ω,F p.1=none/\∃ o,H p.1=some o/\∀ F',yW F F'->p.2 F' o
 sl:Sl K F Γ σ
section
variable {K:W.Frag}{B:Bs}{Γ Γ':Ga}{Ω:Om}{F F':Hp}{σ σ':L2.St}{H H':Hp}
theorem Sat.freeB (S:Sat K B Γ Ω F σ H){b:Addr}(h:H b=none):B.H b=none∨b∈B.M:=by
 by_cases hb:b∈B.M
 ·exact .inr hb
 ·refine .inl ?_;cases q:B.H b with
  |none=>rfl
  |some o=>rw[S.kp b o hb q] at h;cases h
theorem Sat.pur (S:Sat K B Γ Ω F σ H)(p:Pur F H F' H'):Sat K B Γ Ω F' σ H' where
 f0:=S.f0.trans p.ff
 fh:=p.fh
 fr:=fun b q=>(p.new b q).elim (fun z=>S.fr b z) fun z=>(S.freeB z).elim (fun w=>.inr (.inl w)) fun w=>.inr (.inr w)
 kp:=fun b o hb e=>p.hh _ _ (S.kp b o hb e)
 nd:=S.nd
 od:=S.od
 own:=fun q hq=>by
  obtain⟨h1,o,h2,h3⟩:=S.own q hq;refine⟨?_,o,p.hh _ _ h2,fun F2 e=>h3 F2 (p.ff.trans e)⟩;cases z:F' q.1 with
  |none=>rfl
  |some u=>
   rcases p.new q.1 (by rw[z];simp) with w|w
   ·exact absurd h1 w
   ·rw[h2] at w;cases w
 sl:=S.sl.mono p.ff
theorem Sat.slots (S:Sat K B Γ Ω F σ H)(h:Sl K F Γ' σ'):Sat K B Γ' Ω F σ' H:=⟨S.f0,S.fh,S.fr,S.kp,S.nd,S.od,S.own,h⟩
theorem Sl.set {i:Nat}{d:D}{v:V}(h:Sl K F Γ σ)(hi:i<σ.length)(hv:Is K F d v):Sl K F (Γ.set i (some d)) (σ.set i (some v)):=fun j e q=>by
 by_cases hj:i=j
 ·subst hj;rw[Y3] at q;split at q
  ·split at q
   ·cases q;exact⟨v,by rw[Y3];simp[hi],hv⟩
   ·cases q
  ·contradiction
 ·rw[YW hj] at q;obtain⟨u,h1,h2⟩:=h j e q;exact⟨u,by rw[YW hj];exact h1,h2⟩
theorem Sl.nil:Sl K F [] σ:=fun j e q=>by simp at q
theorem Sat.toPur (S:Sat K B Γ Ω F σ H)(hM:B.M=[]):Pur B.F B.H F H:=⟨S.f0,S.fh,fun b o e=>S.kp b o (by rw[hM];simp) e,fun b q=>(S.fr b q).elim .inl fun z=>z.elim .inr fun w=>by rw[hM] at w;cases w⟩
end
structure E3 where
 nx:Ga->Om->Prop
 rt:D->Om->Prop
 bk:Ga->Om->Prop:=fun _ _=>False
 ct:Ga->Om->Prop:=fun _ _=>False
inductive nX (K:W.Frag)(B:Bs)(F0:Hp)(N:Ga->Om->Prop)(σ:L2.St)(H:Hp):Prop
 |mk (Γ:Ga) (Ω:Om) (F:Hp) (S:Sat K B Γ Ω F σ H) (f:yW F0 F) (n:N Γ Ω)
inductive rX (K:W.Frag)(B:Bs)(F0:Hp)(R:D->Om->Prop)(v:V)(H:Hp):Prop
 |mk (d:D) (Ω:Om) (F:Hp) (S:∃ σ,Sat K B [] Ω F σ H) (f:yW F0 F) (i:Is K F d v) (r:R d Ω)
def E3.to (K:W.Frag)(B:Bs)(F0:Hp)(E:E3):Ends:=⟨nX K B F0 E.nx,rX K B F0 E.rt,nX K B F0 E.bk,nX K B F0 E.ct⟩
theorem nX.mono {K:W.Frag}{B:Bs}{F0 F1:Hp}{N:Ga->Om->Prop}{σ:L2.St}{H:Hp}(e:yW F0 F1)(h:nX K B F1 N σ H):nX K B F0 N σ H:=by
 obtain⟨Γ,Ω,F,S,f,n⟩:=h;exact⟨Γ,Ω,F,S,e.trans f,n⟩
def WS (X:Cx)(sts:List Stmt):TS:=fun D σ H=>∀ (pins:List (Addr×Obj)) (s:Shared),Inv X pins σ H s->wpAny (model X.prog X.w) X.A (execs sts X.env) (SP X pins D) X.xe s
def WE (X:Cx)(e:Expr):TE:=fun σ H Q=>∀ (pins:List (Addr×Obj)) (s:Shared),Inv X pins σ H s->wpAny (model X.prog X.w) X.A (eval e X.env) (EP X pins σ Q) X.xe s
def WT (X:Cx)(e:Expr):TT:=fun σ H Q=>∀ (pins:List (Addr×Obj)) (s:Shared),Inv X pins σ H s->wpAny (model X.prog X.w) X.A (isTrue e X.env (eval e X.env)) (TP X pins σ Q) X.xe s
theorem qL {X:Cx}{sts:List Stmt}:PSs X sts (WS X sts):=fun pins s σ H D I h=>h pins s I
theorem JM {X:Cx}{e:Expr}:PE X e (WE X e):=fun pins s σ H Q I h=>h pins s I
theorem sS {X:Cx}{e:Expr}:PT X e (WT X e):=fun pins s σ H Q I h=>h pins s I
theorem PT3.wt {X:Cx}{Γ:Ga}{e:Expr}{k:Bool}(h:PT3 X Γ e k){σ:L2.St}{H:Hp}{Q:Bool->Hp->Prop}(q:tPT X.K Γ k σ H Q):WT X e σ H Q:=fun pins s I=>h pins s σ H Q I q
theorem P3.we {X:Cx}{Γ:Ga}{e:Expr}{d:D}(h:P3 X Γ e d){σ:L2.St}{H:Hp}{Q:VK}(q:tP X.K Γ d σ H Q):WE X e σ H Q:=fun pins s I=>h pins s σ H Q I q
def W3 (X:Cx)(B:Bs)(sts:List Stmt)(Γ:Ga)(Ω:Om)(E:E3):Prop:=∀ F σ H,Sat X.K B Γ Ω F σ H->WS X sts (E.to X.K B F) σ H
section
variable {X:Cx}{B:Bs}{Γ:Ga}{Ω:Om}{E:E3}{rest body:List Stmt}{e c:Expr}{d:D}{pos pos':Pos}{k:Bool}
theorem qS {D D':Ends}(hn:∀ σ H,D.nx σ H->D'.nx σ H)(hr:∀ v H,D.rt v H->D'.rt v H)(hb:∀ σ H,D.bk σ H->D'.bk σ H)(hc:∀ σ H,D.ct σ H->D'.ct σ H){σ:L2.St}{H:Hp}(h:WS X body D σ H):WS X body D' σ H:=fun pins s I=>
 thn (h pins s I) fun f s' q=>by
  cases f with
  |next=>obtain⟨σ',H',I',q⟩:=q;exact⟨σ',H',I',hn _ _ q⟩
  |brk=>obtain⟨σ',H',I',q⟩:=q;exact⟨σ',H',I',hb _ _ q⟩
  |cont=>obtain⟨σ',H',I',q⟩:=q;exact⟨σ',H',I',hc _ _ q⟩
  |ret u=>obtain⟨v,σ',H',I',r,q⟩:=q;exact⟨v,σ',H',I',r,hr _ _ q⟩
theorem Y5 {F0 F1:Hp}(e:yW F0 F1){σ:L2.St}{H:Hp}(h:WS X body (E.to X.K B F1) σ H):WS X body (E.to X.K B F0) σ H:=
 qS (D:=E.to X.K B F1) (D':=E.to X.K B F0) (fun _ _ q=>q.mono e) (fun v H ⟨d,Ω,F,S,f,i,r⟩=>⟨d,Ω,F,S,e.trans f,i,r⟩) (fun _ _ q=>q.mono e) (fun _ _ q=>q.mono e) h
theorem Yb (h:E.nx Γ Ω):W3 X B [] Γ Ω E:=fun F σ H S pins s I=>mv pins s σ H _ I ⟨Γ,Ω,F,S,yW.refl _,h⟩
theorem YC {i:Nat}{x:Str}(hN:X.N.Nodup)(hi:X.N[i]?=some x)(hx:Loc X.env.scope x)(he:P3 X Γ e d)(h:W3 X B rest (Γ.set i (some d)) Ω E)(hs:swapsWith e (some (.Name x pos')) pos.line X.env=pure false:=by rfl)
  (hf:X.fn x=true∨X.env.scope.names.lookup x=some .local:=by first|exact .inl rfl|exact .inr rfl|assumption):W3 X B (.Assign [.Name x pos'] e pos::rest) Γ Ω E:=fun F σ H S pins s I=>
 Y7 (X4 hN hi hx he hs hf) qL pins s σ H _ I ⟨F,S.fh,S.sl,fun v H' F' p i'=>Y5 p.ff (h F' _ H' ((S.pur p).slots (Sl.set (S.sl.mono p.ff) (by rw[I.len];exact(yh.mp hi).1) i')))⟩
theorem Y8 (he:P3 X Γ e d)(h:E.rt d Ω):W3 X B (.Return (some e) pos::rest) Γ Ω E:=fun F σ H S pins s I=>
 Y7 (ii he) vM pins s σ H _ I ⟨F,S.fh,S.sl,fun v H' F' p i'=>⟨d,Ω,F',⟨σ,(S.pur p).slots Sl.nil⟩,p.ff,i',h⟩⟩
theorem wx (he:P3 X Γ e d)(h:W3 X B rest Γ Ω E)(hs:swapsWith e none pos.line X.env=pure false:=by rfl):W3 X B (.Expr e pos::rest) Γ Ω E:=fun F σ H S pins s I=>
 Y7 (VL he hs) qL pins s σ H _ I ⟨F,S.fh,S.sl,fun v H' F' p i'=>Y5 p.ff (h F' _ H' (S.pur p))⟩
abbrev E3.then (E:E3)(X:Cx)(B:Bs)(rest:List Stmt):E3:={E with nx:=fun Γ' Ω'=>W3 X B rest Γ' Ω' E}
theorem Kg {F:Hp}{σ:L2.St}{H:Hp}(h:nX X.K B F (fun Γ' Ω'=>W3 X B rest Γ' Ω' E) σ H):WS X rest (E.to X.K B F) σ H:=by
 obtain⟨Γ',Ω',F',S,f,w⟩:=h;exact Y5 f (w F' σ H S)
theorem VO {F:Hp}{σ:L2.St}{H:Hp}(h:WS X body ((E.then X B rest).to X.K B F) σ H):WS X body {(E.to X.K B F) with nx:=WS X rest (E.to X.K B F)} σ H:=
 qS (D:=(E.then X B rest).to X.K B F) (D':={(E.to X.K B F) with nx:=WS X rest (E.to X.K B F)}) (fun _ _ q=>Kg q) (fun _ _ q=>q) (fun _ _ q=>q) (fun _ _ q=>q) h
theorem JX {a b:List Stmt}(hc:PT3 X Γ c k)(ht:k=true->W3 X B a Γ Ω (E.then X B rest))(hf:k=false->W3 X B b Γ Ω (E.then X B rest)):W3 X B (.If c a b pos::rest) Γ Ω E:=fun F σ H S pins s I=>by
 cases k with
 |true=>exact Y7 (fH hc qL vM) qL pins s σ H _ I ⟨F,S.fh,S.sl,fun H' F' p=>fZ (VO (Y5 p.ff (ht rfl F' σ H' (S.pur p))))⟩
 |false=>exact Y7 (fH hc vM qL) qL pins s σ H _ I ⟨F,S.fh,S.sl,fun H' F' p=>fV (VO (Y5 p.ff (hf rfl F' σ H' (S.pur p))))⟩
theorem wm (hp:PassesOwn (model X.prog X.w) X.A X.env X.xe)(J:Ga->Om->Prop)(μ:Ga->Om->Nat)(h0:J Γ Ω)
  (step:∀ Γ Ω,J Γ Ω->∃ k,PT3 X Γ c k/\(k=true->W3 X B body Γ Ω {E with nx:=fun Γ' Ω'=>J Γ' Ω'/\μ Γ' Ω'<μ Γ Ω,ct:=fun Γ' Ω'=>J Γ' Ω'/\μ Γ' Ω'<μ Γ Ω,bk:=fun Γ' Ω'=>W3 X B rest Γ' Ω' E})/\(k=false->W3 X B rest Γ Ω E)) :
  W3 X B (.While c body [] pos::rest) Γ Ω E:=fun F σ H S pins s I=>by
 refine Y7 (gB hp sS qL) qL pins s σ H _ I ⟨fun m σ H=>∃ Γ Ω F1,Sat X.K B Γ Ω F1 σ H/\yW F F1/\J Γ Ω/\μ Γ Ω=m,⟨_,Γ,Ω,F,S,yW.refl _,h0,rfl⟩,?_⟩;rintro m σ H ⟨Γ,Ω,F1,S,f1,j,rfl⟩;obtain⟨k,hc,ht,hf⟩:=step Γ Ω j;refine hc.wt ⟨F1,S.fh,S.sl,fun H' F' p=>?_⟩;cases k with
 |true=>
  refine fZ ⟨nX X.K B F fun Γ' Ω'=>J Γ' Ω'/\μ Γ' Ω'<μ Γ Ω,?_,qS (D:=E3.to X.K B F {E with nx:=fun Γ' Ω'=>J Γ' Ω'/\μ Γ' Ω'<μ Γ Ω,ct:=fun Γ' Ω'=>J Γ' Ω'/\μ Γ' Ω'<μ Γ Ω,bk:=fun Γ' Ω'=>W3 X B rest Γ' Ω' E})
   (D':={nx:=nX X.K B F fun Γ' Ω'=>J Γ' Ω'/\μ Γ' Ω'<μ Γ Ω,rt:=(E.to X.K B F).rt,bk:=WS X rest (E.to X.K B F),ct:=nX X.K B F fun Γ' Ω'=>J Γ' Ω'/\μ Γ' Ω'<μ Γ Ω}) (fun _ _ q=>q) (fun _ _ q=>q) (fun _ _ q=>Kg q) (fun _ _ q=>q) (Y5 (f1.trans p.ff) (ht rfl F' σ H' (S.pur p)))⟩
  rintro σ' H' ⟨Γ',Ω',F',S',f',j',l⟩;exact⟨_,l,Γ',Ω',F',S',f',j',rfl⟩
 |false=>exact fV (Y5 (f1.trans p.ff) (hf rfl F' σ H' (S.pur p)))
end
def G3 (X:Cx)(tg:Expr)(Γ:Ga)(d:D)(Γ':Ga):Prop:=∃ g,PG X tg g/\∀ (F:Hp) (σ:L2.St) (H:Hp) (v:V) (Q:L2.St->Hp->Prop),yW F H->Is X.K F d v->Sl X.K F Γ σ->σ.length=X.N.length->(∀ σ',Sl X.K F Γ' σ'->σ'.length=X.N.length->Q σ' H)->g v σ H Q
def GL3 (X:Cx)(tg:List Expr)(Γ:Ga)(ds:List D)(Γ':Ga):Prop:=∃ g,PGs X tg g/\∀ (F:Hp) (σ:L2.St) (H:Hp) (vs:List V) (Q:L2.St->Hp->Prop),yW F H->IsL X.K F ds vs->Sl X.K F Γ σ->σ.length=X.N.length->(∀ σ',Sl X.K F Γ' σ'->σ'.length=X.N.length->Q σ' H)->g vs σ H Q
section
variable {X:Cx}{Γ Γ1 Γ2:Ga}{d:D}{ds:List D}{pos:Pos}{tg:Expr}{tgs:List Expr}
theorem yT {i:Nat}{x:Str}(hN:X.N.Nodup)(hi:X.N[i]?=some x)(hx:Loc X.env.scope x)(hf:X.fn x=true∨X.env.scope.names.lookup x=some .local:=by first|exact .inl rfl|exact .inr rfl|assumption):G3 X (.Name x pos) Γ d (Γ.set i (some d)):=
 ⟨_,lB hN hi hx hf,fun F σ H v Q fh iv sl hl q=>q _ (sl.set (by rw[hl];exact(yh.mp hi).1) iv) (by rw[List.length_set];exact hl)⟩
theorem JN:GL3 X [] Γ [] Γ:=⟨_,mL,fun F σ H vs Q fh iv sl hl q=>by
 simp only[IsL] at iv;exact⟨iv,q σ sl hl⟩⟩
theorem qr (h1:G3 X tg Γ d Γ1)(h2:GL3 X tgs Γ1 ds Γ2)(hs:∀ {g:TG} {u:TGs},PG X tg g->PGs X tgs u->PGs X (tg::tgs) (nS g u):=by exact fun a b=>gd a b):GL3 X (tg::tgs) Γ (d::ds) Γ2:=by
 obtain⟨g,p1,q1⟩:=h1;obtain⟨u,p2,q2⟩:=h2;refine⟨_,hs p1 p2,fun F σ H vs Q fh iv sl hl q=>?_⟩;simp only[IsL] at iv;obtain⟨x,r,rfl,i1,i2⟩:=iv;exact⟨x,r,rfl,q1 F σ H x _ fh i1 sl hl fun σ' sl' hl'=>q2 F σ' H r _ fh i2 sl' hl' q⟩
theorem Z1 {k:Nat}(hc:X.calm=true)(h:GL3 X tgs Γ ds Γ1)(hn:(assignEach tgs X.env).length=ds.length:=by rfl)(hst:(assignEach tgs X.env).findIdx? (·.1)=none:=by rfl):G3 X (.Tuple tgs k pos) Γ (.tup ds) Γ1:=by
 obtain⟨g,p,q⟩:=h;refine⟨_,pc hc p hn hst,fun F σ H v Q fh iv sl hl k=>?_⟩;obtain⟨a,xs,rfl,h1,h2⟩:=isT iv;exact⟨a,xs,rfl,jo fh h1,h2.len,q F σ H xs Q fh h2 sl hl k⟩
end
def bO (K:W.Frag)(F0:Hp)(J:It)(ds:List D):Prop:=∀ (i:Nat) (F H:Hp),yW F0 F->yW F H->
 (∀ d,ds[i]?=some d->J.go i H/\∀ x H',J.yld i H x H'->∃ F',Pur F H F' H'/\Is K F' d x)/\(ds.length<=i->J.stop i H)
def I3 (X:Cx)(Γ:Ga)(tg iter:Expr)(ds:List D):Prop:=PI X tg iter fun σ H R=>∃ F,yW F H/\Sl X.K F Γ σ/\∀ J H' F',Pur F H F' H'->bO X.K F' J ds->R J H'
theorem PI.of {X:Cx}{tg e:Expr}{t u:TI}(h:PI X tg e t)(i:∀ σ H R,u σ H R->t σ H R):PI X tg e u:=fun pins s σ H Q I hq=>h pins s σ H Q I (i _ _ _ hq)
section
variable {X:Cx}{Γ Γ1:Ga}{d:D}{ds es:List D}{pos p:Pos}{tg a b:Expr}
theorem qW (hl:P3 X Γ a (.lst ds)):I3 X Γ tg a ds:=PI.of (bq hl) fun σ H R ⟨F,fh,sl,q⟩=>⟨F,fh,sl,fun v H' F' p i=>by
 obtain⟨l,xs,rfl,s1,j1⟩:=JK i;refine⟨l,rfl,⟨xs,p.fh.seq s1⟩,q _ H' F' p fun n F2 H2 e1 e2=>⟨fun d w=>?_,fun w=>⟨xs,(e1.trans e2).seq s1,by rw[j1.len];exact w⟩⟩⟩;obtain⟨x,hx,ix⟩:=j1.get w;refine⟨⟨xs,x,(e1.trans e2).seq s1,hx⟩,fun y H3 ⟨z,w'⟩=>?_⟩;subst z;have:=w' xs ((e1.trans e2).seq s1);rw[hx] at this;cases this;exact⟨F2,Pur.refl e2,ix.mono e1⟩⟩
theorem nV (hl:P3 X Γ a (.tup ds)):I3 X Γ tg a ds:=PI.of (rJ hl) fun σ H R ⟨F,fh,sl,q⟩=>⟨F,fh,sl,fun v H' F' p i=>by
 obtain⟨l,xs,rfl,s1,j1⟩:=isT i;refine⟨l,rfl,⟨xs,jo p.fh s1⟩,q _ H' F' p fun n F2 H2 e1 e2=>⟨fun d w=>?_,fun w=>⟨xs,jo (e1.trans e2) s1,by rw[j1.len];exact w⟩⟩⟩;obtain⟨x,hx,ix⟩:=j1.get w;refine⟨⟨xs,x,jo (e1.trans e2) s1,hx⟩,fun y H3 ⟨z,w'⟩=>?_⟩;subst z;have:=w' xs (jo (e1.trans e2) s1);rw[hx] at this;cases this;exact⟨F2,Pur.refl e2,ix.mono e1⟩⟩
def aJ (lo:Int)(n:Nat):List D:=(List.range n).map fun (j:Nat)=>.int (lo+(j:Int))
theorem xP {K:W.Frag}{F0:Hp}{lo:Int}{n:Nat}:bO K F0 (Itr lo n) (aJ lo n):=fun i F H e1 e2=>
 ⟨fun d q=>by
  unfold aJ at q;rw[yl] at q;have hi:i<n:=by
   by_cases h:i<n
   ·exact h
   ·rw[yt.mpr (by simpa using h)] at q;cases q
  rw[qO hi] at q;cases q;refine⟨hi,fun x H' ⟨z,w⟩=>?_⟩;subst z w;exact⟨F,Pur.refl e2,Jw F⟩,fun q=>by
  unfold aJ at q;have q':n<=i:=by simpa using q
  exact q'⟩
theorem gK {j:Int}(hm:X.mg "range" = none)(hg:Gl X "range")(ha:P3 X Γ a (.int j))(h1:-(2 ^ 62)<=j)(h2:j<2 ^ 62)(hs:starEach [a] X.env=[(false,eval a X.env)]:=by rfl):I3 X Γ tg (.Call (.Name "range" p) [a] [] pos) (aJ 0 j.toNat):=
 PI.of (cD hg hm (yb ha yn hs) hs) fun σ H R ⟨F,fh,sl,q⟩=>⟨F,fh,sl,fun vs H' F' pu i=>by
  obtain⟨x,rfl,j0⟩:=K5 i;exact⟨j,by rw[isI j0],h1,h2,q _ H' F' pu xP⟩⟩
theorem gP {i j:Int}(hm:X.mg "range" = none)(hg:Gl X "range")(ha:P3 X Γ a (.int i))(hb:P3 X Γ b (.int j))(h1:-(2 ^ 62)<=i/\i<2 ^ 62/\-(2 ^ 62)<=j/\j<2 ^ 62)(hs:starEach [a,b] X.env=[(false,eval a X.env),(false,eval b X.env)]:=by rfl)(hs2:starEach [b] X.env=[(false,eval b X.env)]:=by rfl) :
  I3 X Γ tg (.Call (.Name "range" p) [a,b] [] pos) (aJ i (j - i).toNat):=
 PI.of (de hg hm (yb ha (yb hb yn hs2) (hs.trans (by rw[hs2]))) hs hs2) fun σ H R ⟨F,fh,sl,q⟩=>⟨F,fh,sl,fun vs H' F' pu iv=>by
  obtain⟨x,y,rfl,j0,j1⟩:=pw iv;exact⟨i,j,by rw[isI j0,isI j1],h1,q _ H' F' pu xP⟩⟩
def Vy (ds:List D):List D:=ds.mapIdx fun i d=>.tup [.int (i:Int),d]
theorem fk {es':List Expr}{x1:Nat}{tpos:Pos}(hm:X.mg "enumerate" = none)(hg:Gl X "enumerate")(ha:P3 X Γ a (.lst ds))(hs:starEach [a] X.env=[(false,eval a X.env)]:=by rfl) :
  I3 X Γ (.Tuple es' x1 tpos) (.Call (.Name "enumerate" p) [a] [] pos) (Vy ds):=
 PI.of (mW hg hm (yb ha yn hs) hs) fun σ H R ⟨F,fh,sl,q⟩=>⟨F,fh,sl,fun vs H' F' pu iv=>by
  obtain⟨x,rfl,j0⟩:=K5 iv;obtain⟨l,xs,rfl,s1,j1⟩:=aA j0;refine⟨l,xs,rfl,JY pu.fh s1,fun K=>q _ H' F' pu fun n F2 H2 e1 e2=>⟨fun d w=>?_,fun w=>?_⟩⟩
  ·unfold Vy at w;rw[List.getElem?_mapIdx] at w;cases z:ds[n]? with
   |none=>rw[z] at w;cases w
   |some d0=>
    rw[z] at w;cases w;obtain⟨y,hy,iy⟩:=j1.get z;have hl:SqL K H2 l xs:=.inl (JY (e1.trans e2) s1);refine⟨⟨xs,y,hl,hy⟩,fun v H3 ⟨T,y',hT,hv,hy',e3⟩=>?_⟩;subst hv e3;have:=hy' xs hl;rw[hy] at this;cases this;refine⟨_,Pur.lay e2 hT,Is.tupI (.inl (.inl yN)) (IsL.cons (Jw _) (IsL.cons (iy.mono (e1.trans (Pur.lay e2 hT).ff)) IsL.nil))⟩
  ·unfold Vy at w;rw[jK] at w;exact⟨xs,.inl (JY (e1.trans e2) s1),by rw[j1.len];exact w⟩⟩
def vb (ds es:List D):List D:=(ds.zip es).map fun p=>.tup [p.1,p.2]
theorem ck {es':List Expr}{x1:Nat}{tpos:Pos}(hm:X.mg "zip" = none)(hg:Gl X "zip")(ha:P3 X Γ a (.lst ds))(hb:P3 X Γ b (.lst es))(hs:starEach [a,b] X.env=[(false,eval a X.env),(false,eval b X.env)]:=by rfl)(hs2:starEach [b] X.env=[(false,eval b X.env)]:=by rfl) :
  I3 X Γ (.Tuple es' x1 tpos) (.Call (.Name "zip" p) [a,b] [] pos) (vb ds es):=
 PI.of (pW hg hm (yb ha (yb hb yn hs2) (hs.trans (by rw[hs2]))) hs hs2) fun σ H R ⟨F,fh,sl,q⟩=>⟨F,fh,sl,fun vs H' F' pu iv=>by
  obtain⟨x,y,rfl,j0,j00⟩:=pw iv;obtain⟨l,xs,rfl,s1,j1⟩:=JK j0;obtain⟨l2,ys,rfl,s2,j2⟩:=JK j00;refine⟨l,l2,xs,ys,rfl,pu.fh.seq s1,pu.fh.seq s2,q _ H' F' pu fun n F2 H2 e1 e2=>⟨fun d w=>?_,fun w=>?_⟩⟩
  ·unfold vb at w;rw[yl] at w;cases z:(ds.zip es)[n]? with
   |none=>rw[z] at w;cases w
   |some d0=>
    rw[z] at w;cases w;obtain⟨z1,z2⟩:=YE.mp z;obtain⟨x,hx,ix⟩:=j1.get z1;obtain⟨y,hy,iy⟩:=j2.get z2;have h1:=(e1.trans e2).seq s1;have h2:=(e1.trans e2).seq s2;refine⟨⟨xs,ys,x,y,h1,h2,hx,hy⟩,fun v H3 ⟨T,x',y',hT,hv,hx',hy',e3⟩=>?_⟩;subst hv e3;have t1:=hx' xs h1;have t2:=hy' ys h2;rw[hx] at t1;rw[hy] at t2;cases t1;cases t2;refine⟨_,Pur.lay e2 hT,Is.tupI (.inl (.inl yN)) (IsL.cons (ix.mono (e1.trans (Pur.lay e2 hT).ff)) (IsL.cons (iy.mono (e1.trans (Pur.lay e2 hT).ff)) IsL.nil))⟩
  ·unfold vb at w;rw[yf,YG] at w;refine⟨xs,ys,(e1.trans e2).seq s1,(e1.trans e2).seq s2,?_⟩;rw[j1.len,j2.len];omega⟩
theorem jP {B:Bs}{Ω:Om}{E:E3}{rest body:List Stmt}{iter:Expr}(hp:PassesOwn (model X.prog X.w) X.A X.env X.xe)(hc:X.calm=true)(hi:I3 X Γ tg iter ds)(J:Nat->Ga->Om->Prop)(h0:J 0 Γ Ω)
  (step:∀ i d Γ Ω,ds[i]?=some d->J i Γ Ω->∃ Γ1,G3 X tg Γ d Γ1/\W3 X B body Γ1 Ω {E with nx:=J (i+1),ct:=J (i+1),bk:=fun Γ' Ω'=>W3 X B rest Γ' Ω' E})
  (hd:∀ Γ Ω,J ds.length Γ Ω->W3 X B rest Γ Ω E) (hs:∀ x,foldedSetIterable iter X.env x=pure x:=by intro _;rfl):W3 X B (.For tg iter body [] pos::rest) Γ Ω E:=fun F σ H S pins s I=>by
 have hgw:PG X tg (fun v σ H Q=>∀ (pins:List (Addr×Obj)) (s:Shared) (u:Value),Inv X pins σ H s->YA v u->wpAny (model X.prog X.w) X.A (assign tg X.env u) (fun _ s'=>∃ σ' H',Inv X pins σ' H' s'/\Q σ' H') X.xe s):=fun pins s σ H v u Q I r h=>h pins s u I r;refine Y7 (fF hp hc hi hgw qL hs) qL pins s σ H _ I ⟨F,S.fh,S.sl,fun Jt H1 F1 p w=>⟨fun i m σ H=>i+m=ds.length/\nX X.K B F1 (J i) σ H,⟨ds.length,by omega,Γ,Ω,F1,S.pur p,yW.refl _,h0⟩,?_⟩⟩;rintro i m σ H ⟨hm,Γ,Ω,F2,S,f1,j⟩;obtain⟨w1,w2⟩:=w i F2 H f1 S.fh;cases z:ds[i]? with
 |none=>
  have hl:ds.length<=i:=yt.mp z;have e:i=ds.length:=by omega
  subst e;exact .inl ⟨w2 hl,Y5 (p.ff.trans f1) (hd Γ Ω j F2 σ H S)⟩
 |some d=>
  have hl:i<ds.length:=(yh.mp z).1;obtain⟨go,y⟩:=w1 d z;obtain⟨Γ1,⟨g,pg,gq⟩,wb⟩:=step i d Γ Ω z j;refine .inr ⟨go,nX X.K B F1 (J (i+1)),?_,fun x H' hy pins s u I2 r=>?_⟩
  ·rintro σ' H' n;exact⟨m - 1,by omega,by omega,n⟩
  ·obtain⟨F3,p2,ix⟩:=y x H' hy;refine pg pins s σ H' x u _ I2 r (gq F3 σ H' x _ p2.fh ix (S.sl.mono p2.ff) I2.len fun σ' sl' _=>?_);have f3:yW F1 F3:=f1.trans p2.ff;exact qS (D:=E3.to X.K B F3 {E with nx:=J (i+1),ct:=J (i+1),bk:=fun Γ' Ω'=>W3 X B rest Γ' Ω' E}) (D':={nx:=nX X.K B F1 (J (i+1)),rt:=(E.to X.K B F).rt,bk:=WS X rest (E.to X.K B F),ct:=nX X.K B F1 (J (i+1))})
    (fun _ _ q=>q.mono f3) (fun v H ⟨d,Ω,F,S,f,i,r⟩=>⟨d,Ω,F,S,(p.ff.trans f3).trans f,i,r⟩) (fun _ _ q=>Kg (q.mono (p.ff.trans f3))) (fun _ _ q=>q.mono f3) (wb F3 σ' H' ((S.pur p2).slots sl'))
end
def xv (nt:Nat)(caps:List Nat)(Γ:Ga):Ga:=List.replicate nt none++caps.map fun i=>Γ.getD i none
def Sub (Γ Γ1:Ga):Prop:=∀ (i:Nat) (e:D),Γ[i]?=some (some e)->Γ1[i]?=some (some e)
theorem Sub.set {Γ:Ga}{i:Nat}{d:Option D}(h:Γ[i]?=some none):Sub Γ (Γ.set i d):=fun j e q=>by
 have:i≠j:=fun z=>by subst z;rw[h] at q;cases q
 rw[YW this];exact q
theorem Sub.trans {Γ Γ1 Γ2:Ga}(a:Sub Γ Γ1)(b:Sub Γ1 Γ2):Sub Γ Γ2:=fun i e q=>b i e (a i e q)
theorem Sl.sub {K:W.Frag}{F:Hp}{Γ Γ1:Ga}{σ:L2.St}(h:Sl K F Γ1 σ)(s:Sub Γ Γ1):Sl K F Γ σ:=fun i d q=>h i d (s i d q)
theorem Sl.cap {K:W.Frag}{F:Hp}{Γ:Ga}{σ:L2.St}{nt:Nat}{caps:List Nat}(h:Sl K F Γ σ):Sl K F (xv nt caps Γ) (ua nt caps σ):=fun j d q=>by
 unfold xv at q;unfold ua;by_cases hj:j<nt
 ·rw[qq (by simpa using hj),Qm] at q;split at q <;> cases q
 ·rw[qa (by simpa using hj),qy,yl] at q;rw[qa (by simpa using hj),qy,yl];cases ec:caps[j - nt]? with
  |none=>rw[ec] at q;cases q
  |some ci=>
   rw[ec] at q;have q':Γ.getD ci none=some d:=by simpa using q
   rw[yM] at q';have e:Γ[ci]?=some (some d):=by
    cases z:Γ[ci]? with
    |none=>rw[z] at q';cases q'
    |some w=>rw[z] at q';exact congrArg some q'
   obtain⟨v,h1,h2⟩:=h ci d e;refine⟨v,?_,h2⟩;simp[yM,h1]
def eG (X:Cx)(Γ:Ga)(ifs:List Expr)(k:Bool):Prop:=PTs X ifs (tPT X.K Γ k)
theorem Qq {X:Cx}{Γ:Ga}:eG X Γ [] true:=fun pins s σ H Q I ⟨F,fh,sl,q⟩=>mU (c:=⟨0,s,H,[]⟩) pins s σ H Q I (q H F (Pur.refl fh))
theorem v8 {X:Cx}{Γ:Ga}{c:Expr}{k:Bool}(h:PT3 X Γ c k):eG X Γ [c] k:=lq h
def gW (X:Cx)(tg:Expr):TG:=fun v σ H Q=>∀ (pins:List (Addr×Obj)) (s:Shared) (u:Value),Inv X pins σ H s->YA v u->wpAny (model X.prog X.w) X.A (assign tg X.env u) (fun _ s'=>∃ σ' H',Inv X pins σ' H' s'/\Q σ' H') X.xe s
def WTs (X:Cx)(ifs:List Expr):TT:=fun σ H Q=>∀ (pins:List (Addr×Obj)) (s:Shared),Inv X pins σ H s->
 wpAny (model X.prog X.w) X.A (forIn ifs true fun c r=>if r=true then do let ok ←isTrue c X.env (eval c X.env);pure (ForInStep.yield ok) else pure (ForInStep.yield r)) (TP X pins σ Q) X.xe s
theorem me {X:Cx}{tg:Expr}:PG X tg (gW X tg):=fun pins s σ H v u Q I r h=>h pins s u I r
theorem gY {X:Cx}{ifs:List Expr}:PTs X ifs (WTs X ifs):=fun pins s σ H Q I h=>h pins s I
def b9 (X:Cx)(sc:Scope)(N:List Str)(tg elt:Expr)(ifs:List Expr)(G:Ga)(ds:List D)(pre:Nat->List D):Prop:=∀ (c:CArg) (i:Nat) (d:D),ds[i]?=some d->∃ Γ1,G3 (X.comp sc N c) tg G d Γ1/\Sub G Γ1/\
 ((∃ e,eG (X.comp sc N c) Γ1 ifs true/\P3 (X.comp sc N c) Γ1 elt e/\pre (i+1)=pre i++[e])∨(eG (X.comp sc N c) Γ1 ifs false/\pre (i+1)=pre i))
section
variable {X:Cx}{Γ:Ga}{tg iter elt:Expr}{ifs:List Expr}{sc SX:Scope}{N XN:List Str}{nt:Nat}{caps:List Nat}{pos:Pos}{ds:List D}{pre:Nat->List D}
theorem Uq (hz:∀ i,i<=ds.length->(pre i).length<sizeLine)(h0:pre 0=[])(step:b9 X sc N tg elt ifs (xv nt caps Γ) ds pre){σ:L2.St}{H:Hp}{Q:VK}
  (h:∃ F,yW F H/\Sl X.K F Γ σ/\∀ p xs H' F',Pur F H F' H'->H p=none->F' p=none->H' p=some (.lst xs)->IsL X.K F' (pre ds.length) xs->Q (.ref p) H') :
  fc nt caps (fun σ H R=>∃ F,yW F H/\Sl X.K F Γ σ/\∀ J H' F',Pur F H F' H'->bO X.K F' J ds->R J H') (fun c=>gW (X.comp sc N c) tg) (fun c=>WTs (X.comp sc N c) ifs) (fun c=>WE (X.comp sc N c) elt) σ H Q:=by
 obtain⟨F,fh,sl,q⟩:=h;refine⟨F,fh,sl,fun J H1 F1 p1 wk D hD c=>⟨fun i m σ' ys H'=>i+m=ds.length/\∃ F',Pur F1 H1 F' H'/\F' D=none/\H' D=some (.lst ys)/\IsL X.K F' (pre i) ys/\Sl X.K F' (xv nt caps Γ) σ',?_,?_⟩⟩
 ·exact⟨ds.length,by omega,F1,Pur.layOwn p1.fh hD,p1.fh.free hD,yN,by rw[h0];exact IsL.nil,Sl.cap (sl.mono p1.ff)⟩
 ·rintro i m σ' ys H' ⟨hm,F',pu,fD,hH,il,sl'⟩;refine⟨hH,by rw[il.len];exact hz i (by omega),?_⟩;obtain⟨w1,w2⟩:=wk i F' H' pu.ff pu.fh;cases z:ds[i]? with
  |none=>
   have hl:ds.length<=i:=yt.mp z;have e:i=ds.length:=by omega
   subst e;exact .inl ⟨w2 hl,q D ys H' F' (p1.trans pu) (p1.hh.free hD) fD hH il⟩
  |some d=>
   have hl:i<ds.length:=(yh.mp z).1;obtain⟨go,y⟩:=w1 d z;obtain⟨Γ1,⟨g,pg,gq⟩,sub,alt⟩:=step c i d z;refine .inr ⟨go,fun x H2 hy pins s u I2 r=>?_⟩;obtain⟨F2,p2,ix⟩:=y x H2 hy;have keepD:∀ {F3 H3 F4 H4:Hp},Pur F3 H3 F4 H4->F3 D=none->(∃ o,H3 D=some o)->F4 D=none:=fun {F3 H3 F4 H4} pp f3 h3=>by
    cases zz:F4 D with
    |none=>rfl
    |some o=>
     rcases pp.new D (by rw[zz];simp) with w|w
     ·exact absurd f3 w
     ·obtain⟨o',h3⟩:=h3;rw[h3] at w;cases w
   have fD2:=keepD p2 fD ⟨_,hH⟩;have hH2:=p2.hh _ _ hH;refine pg pins s σ' H2 x u _ I2 r (gq F2 σ' H2 x _ p2.fh ix (sl'.mono p2.ff) I2.len fun σ3 sl3 _=>?_);rcases alt with ⟨e,ht,he,hpre⟩|⟨ht,hpre⟩
   ·refine fun pins s I3=>ht pins s σ3 H2 _ I3 ⟨F2,p2.fh,sl3,fun H4 F4 p4=>fZ ?_⟩;refine fun pins s I4=>he pins s σ3 H4 _ I4 ⟨F4,p4.fh,sl3.mono p4.ff,fun v H5 F5 p5 iv=>?_⟩;have fD5:=keepD p5 (keepD p4 fD2 ⟨_,hH2⟩) ⟨_,p4.hh _ _ hH2⟩;have hH5:=p5.hh _ _ (p4.hh _ _ hH2);have P5:=((pu.trans p2).trans p4).trans p5;refine⟨ys,hH5,by rw[il.len];exact hz i (by omega),m - 1,by omega,by omega,F5,⟨P5.ff,fun b o w=>?_,fun b o w=>?_,P5.new⟩,fD5,yN,?_,(sl3.mono (p4.ff.trans p5.ff)).sub sub⟩
    ·rw[yA (yZ w fD5)];exact P5.fh _ _ w
    ·rw[yA (yZ w hD)];exact P5.hh _ _ w
    ·rw[hpre];exact(il.mono ((p2.ff.trans p4.ff).trans p5.ff)).append (IsL.cons iv IsL.nil)
   ·refine fun pins s I3=>ht pins s σ3 H2 _ I3 ⟨F2,p2.fh,sl3,fun H4 F4 p4=>fV ?_⟩;have P4:=(pu.trans p2).trans p4;refine⟨ys,m - 1,by omega,by omega,F4,P4,keepD p4 fD2 ⟨_,hH2⟩,p4.hh _ _ hH2,?_,(sl3.mono p4.ff).sub sub⟩;rw[hpre];exact il.mono (p2.ff.trans p4.ff)
theorem qQ (S:CompOk SX sc XN N nt caps)(hi:I3 X Γ tg iter ds)(hz:∀ i,i<=ds.length->(pre i).length<sizeLine)(h0:pre 0=[])(step:b9 X sc N tg elt ifs (xv nt caps Γ) ds pre)(hc:X.calm=true:=by rfl)(hX:X.env.scope=SX:=by rfl)(hN:X.N=XN:=by rfl)
  (hs:∀ x,foldedSetIterable iter X.env x=pure x:=by intro _;rfl):PF3 X Γ (.ListComp elt [⟨tg,iter,ifs,0⟩] sc pos) (pre ds.length):=
 PE.of (bf S hi (fun c=>me) (fun c=>gY) (fun c=>JM) hc hX hN hs) fun σ H Q h=>Uq hz h0 step h
theorem ZL {B:Bs}{Ω:Om}{E:E3}{rest:List Stmt}{y:Str}{py:Pos}{i:Nat}{spos:Pos}(S:CompOk SX sc XN N nt caps)(hnd:X.N.Nodup)(hix:X.N[i]?=some y)(hy:Loc X.env.scope y)(hi:I3 X Γ tg iter ds)(hz:∀ i,i<=ds.length->(pre i).length<sizeLine)(h0:pre 0=[])
  (step:b9 X sc N tg elt ifs (xv nt caps Γ) ds pre) (h:W3 X B rest (Γ.set i (some (.lst (pre ds.length)))) Ω E)
  (hsw:swapsWith (.ListComp elt [⟨tg,iter,ifs,0⟩] sc pos) (some (.Name y py)) spos.line X.env=pure true:=by rfl) (hc:X.calm=true:=by rfl) (hX:X.env.scope=SX:=by rfl) (hN:X.N=XN:=by rfl)
  (hs:∀ x,foldedSetIterable iter X.env x=pure x:=by intro _;rfl) (hf:X.fn y=true∨X.env.scope.names.lookup y=some .local:=by first|exact .inl rfl|exact .inr rfl):W3 X B (.Assign [.Name y py] (.ListComp elt [⟨tg,iter,ifs,0⟩] sc pos) spos::rest) Γ Ω E:=fun F σ H S' pins s I=>by
 refine Y7 (ml S hnd hix hy hi (fun c=>me) (fun c=>gY) (fun c=>JM) hsw hc hX hN hs hf) qL pins s σ H _ I (Uq (Q:=fun x H1=>xM i x σ H1 (WS X rest (E.to X.K B F))) hz h0 step ⟨F,S'.fh,S'.sl,fun p xs H' F' pu hp fp e il=>?_⟩);have w:yW F' (upd F' p (.lst xs)):=fun b u q=>by rw[yA (yZ q fp)];exact q
 have wf:yW (upd F' p (.lst xs)) H':=fun b u q=>by
  by_cases hb:b=p
  ·subst hb;rw[yN] at q;cases q;exact e
  ·rw[yA hb] at q;exact pu.fh _ _ q
 have w2:Pur F H (upd F' p (.lst xs)) H':=by
  refine⟨pu.ff.trans w,wf,pu.hh,fun b q=>?_⟩;by_cases hb:b=p
  ·subst hb;exact .inr hp
  ·rw[yA hb] at q;exact pu.new b q
 exact Y5 w2.ff (h _ _ H' ((S'.pur w2).slots (Sl.set (S'.sl.mono w2.ff) (by rw[I.len];exact(yh.mp hix).1) (Is.lstI (.inl yN) (il.mono w)))))
end
def wZ (ds:List D)(lo hi:Option Int):List D:=(ds.drop (HT.sIx ds.length 0 lo)).take (HT.sIx ds.length ds.length hi - HT.sIx ds.length 0 lo)
theorem oE {K:W.Frag}{F:Hp}{ds:List D}{xs:List V}{lo hi:Option Int}(h:IsL K F ds xs):IsL K F (wZ ds lo hi) (dR xs lo hi):=by
 unfold wZ dR;rw[h.len];exact(h.drop _).take _
def PO3 (X:Cx)(Γ:Ga)(e:Option Expr)(i:Option Int):Prop:=PO X e fun σ H Q=>∃ F,yW F H/\Sl X.K F Γ σ/\∀ H' F',Pur F H F' H'->Q i H'
section
variable {X:Cx}{Γ:Ga}{a e:Expr}{lo hi:Option Expr}{i j:Option Int}{d:D}{ds:List D}{pos p2:Pos}
theorem PO.of {e:Option Expr}{t u:TO}(h:PO X e t)(i:∀ σ H Q,u σ H Q->t σ H Q):PO X e u:=fun pins s σ H Q I hq=>h pins s σ H Q I (i _ _ _ hq)
theorem XV:PO3 X Γ none none:=PO.of lr fun σ H Q ⟨F,fh,sl,q⟩=>q H F (Pur.refl fh)
theorem ac {n:Int}(h:P3 X Γ e (.int n)):PO3 X Γ (some e) (some n):=PO.of (mR h) fun σ H Q ⟨F,fh,sl,q⟩=>⟨F,fh,sl,fun v H' F' p i=>⟨n,isI i,q H' F' p⟩⟩
theorem AG {K:W.Frag}{σ:L2.St}{H:Hp}{R:V->Option Int->Option Int->Hp->VK->Prop}{Q:VK}(h:∃ F,yW F H/\Sl K F Γ σ/\∀ x H2 F2,Pur F H F2 H2->Is K F2 d x->R x i j H2 Q) :
  tSl R (tP K Γ d) (fun σ H Q=>∃ F,yW F H/\Sl K F Γ σ/\∀ H' F',Pur F H F' H'->Q i H') (fun σ H Q=>∃ F,yW F H/\Sl K F Γ σ/\∀ H' F',Pur F H F' H'->Q j H') σ H Q:=by
 obtain⟨F,fh,sl,q⟩:=h;exact⟨F,fh,sl,fun x H1 F1 p1 i1=>⟨F1,p1.fh,sl.mono p1.ff,fun H2 F2 p2=>⟨F2,p2.fh,sl.mono (p1.ff.trans p2.ff),fun H3 F3 p3=>q x H3 F3 ((p1.trans p2).trans p3) (i1.mono (p2.ff.trans p3.ff))⟩⟩⟩
theorem Ky (ha:P3 X Γ a (.lst ds))(hl:PO3 X Γ lo i)(hh:PO3 X Γ hi j):PF3 X Γ (.Subscript a (.Slice lo hi none p2) pos) (wZ ds i j):=
 PE.of (fW mC ha hl hh) fun σ H Q ⟨F,fh,sl,q⟩=>AG ⟨F,fh,sl,fun x H2 F2 p i1=>by
  obtain⟨l,xs,rfl,s1,j1⟩:=JK i1;exact⟨l,xs,rfl,p.fh.seq s1,fun b hb=>q b _ _ F2 (p.trans (Pur.layOwn p.fh hb)) (p.hh.free hb) (p.fh.free hb) yN (oE j1)⟩⟩
end
def QW (N:List Str)(ds:List D):Ga:=ds.map some++List.replicate (N.length - ds.length) none
theorem Sl.start {K:W.Frag}{F:Hp}{N:List Str}{ds:List D}{vs:List V}(h:IsL K F ds vs):Sl K F (QW N ds) (L2.start N vs):=fun i d q=>by
 unfold QW at q;unfold L2.start;have hl:=h.len;by_cases hi:i<ds.length
 ·rw[qq (by simpa using hi),yl] at q;rw[qq (by rw[yf,hl];exact hi),yl];cases e:ds[i]? with
  |none=>rw[e] at q;cases q
  |some d'=>
   rw[e] at q;cases q;obtain⟨v,h1,h2⟩:=h.get e;exact⟨v,by rw[h1];rfl,h2⟩
 ·rw[qa (by simpa using hi),Qm] at q;split at q <;> cases q
theorem Sat.entry {K:W.Frag}{F H:Hp}{N:List Str}{ds:List D}{vs:List V}(fh:yW F H)(h:IsL K F ds vs):Sat K ⟨[],F,H⟩ (QW N ds) [] F (L2.start N vs) H:=
 ⟨yW.refl _,fh,fun _ q=>.inl q,fun _ _ _ e=>e,List.nodup_nil,(fun _ q=>absurd q (by simp)),(fun _ q=>absurd q (by simp)),Sl.start h⟩
abbrev cx0 (P:Program)(w:World)(K:W.Frag)(mg:Str->Option Value)(base:Heap)(N:List Str)(x:Str)(st:Stmt)(f:Addr)(cdv:Value)(A:Around)(outer:List Env)(s:Shared)(H:Hp)(E:XK):Cx:=(uv CX0 P w K mg base N x (yi st) f cdv A outer s H E).nox
section
variable {P:Program}{w:World}{K:W.Frag}{mg:Str->Option Value}{base:Heap}{x:Str}{st:Stmt}{N ps:List Str}{k n:Nat}
theorem Yz {C:List D->D->Prop}(d:Yn K mg x st ps)(S:FnScope N ps (yi st))(hn:ps.length=n)
  (body:∀ (f:Addr) (cdv:Value) (A:Around) (outer:List Env) (s:Shared) (H:Hp) (E:XK),Room k (A.deeper (envOfC x (yi st) s.heap.objs.size f cdv))->∀ (ds:List D) (r:D),C ds r->∀ B:Bs,B.M=[]->
   W3 (cx0 P w K mg base N x st f cdv A outer s H E) B (YT st) (QW N ds) [] ⟨fun _ _=>r=.non,fun r' _=>r'=r,fun _ _=>False,fun _ _=>False⟩):OkF P w K mg base CX0 (k+1) x ps (spP K n C):=by
 refine d.ok S (fun vs H Q E h=>h.len.trans hn.symm) fun f cdv A outer s H vs Q E hr h=>⟨_,qL,?_⟩
 obtain⟨ds,r,F,hC,hl,fh,il,q⟩:=h;refine qS (D:=E3.to K ⟨[],F,H⟩ F ⟨fun _ _=>r=.non,fun r' _=>r'=r,fun _ _=>False,fun _ _=>False⟩) (D':={nx:=fun _ H'=>Q .non H',rt:=Q}) ?_ ?_ ?_ ?_ (body f cdv A outer s H E hr ds r hC ⟨[],F,H⟩ rfl F (L2.start N vs) H (Sat.entry fh il))
 ·rintro σ' H' ⟨Γ',Ω',F',S',f',e⟩;subst e;exact q _ _ _ (S'.toPur rfl) (cm F')
 ·rintro v H' ⟨d',Ω',F',⟨σ',S'⟩,f',i',e⟩;subst e;exact q _ _ _ (S'.toPur rfl) i'
 ·rintro σ' H' ⟨_,_,_,_,_,z⟩;exact z.elim
 ·rintro σ' H' ⟨_,_,_,_,_,z⟩;exact z.elim
end
section
variable {X:Cx}{B:Bs}{Γ:Ga}{Ω:Om}{E:E3}{rest:List Stmt}{e:Expr}{es:List Expr}{ds:List D}{pos np cpos p:Pos}{Ex:XK}{C:Addr}{x:Str}
end
section
variable {X:Cx}{B:Bs}{Γ:Ga}{Ω:Om}{E:E3}{rest:List Stmt}{e:Expr}{ds:List D}{pos pos':Pos}{x:Str}
theorem KH {i:Nat}(hN:X.N.Nodup)(hi:X.N[i]?=some x)(hx:Loc X.env.scope x)(he:PF3 X Γ e ds)(h:∀ a,W3 X B rest (Γ.set i (some (.raw (.ref a)))) ((a,Q3 X.K ds)::Ω) E)(hs:swapsWith e (some (.Name x pos')) pos.line X.env=pure false:=by rfl)
  (hf:X.fn x=true∨X.env.scope.names.lookup x=some .local:=by first|exact .inl rfl|exact .inr rfl|assumption):W3 X B (.Assign [.Name x pos'] e pos::rest) Γ Ω E:=fun F σ H S pins s I=>
 Y7 (X4 hN hi hx he hs hf) qL pins s σ H _ I ⟨F,S.fh,S.sl,fun a xs H' F' pu ha fa hH il=>by
  have S1:=S.pur pu;have nin:a∉Ω.map (·.1):=fun z=>by
   obtain⟨q,hq,e⟩:=yx.mp z;obtain⟨_,o,h2,_⟩:=S.own q hq;rw[e,ha] at h2;cases h2
  refine Y5 pu.ff (h a F' _ H' ⟨S1.f0,S1.fh,S1.fr,S1.kp,Yc.mpr ⟨nin,S1.nd⟩,fun q hq=>?_,fun q hq=>?_,Sl.set (S.sl.mono pu.ff) (by rw[I.len];exact(yh.mp hi).1) (Vz F')⟩)
  ·rcases yP.mp hq with z|z
   ·subst z;exact(S.freeB ha).symm
   ·exact S1.od q z
  ·rcases yP.mp hq with z|z
   ·subst z;exact⟨fa,_,hH,fun F2 e=>⟨xs,rfl,il.mono e⟩⟩
   ·exact S1.own q z⟩
theorem Sat.perm {K:W.Frag}{Ω':Om}{F:Hp}{σ:L2.St}{H:Hp}(S:Sat K B Γ Ω F σ H)(p:Ω'.Perm Ω):Sat K B Γ Ω' F σ H:=
 ⟨S.f0,S.fh,S.fr,S.kp,(p.map _).nodup_iff.mpr S.nd,fun q hq=>S.od q (p.mem_iff.mp hq),fun q hq=>S.own q (p.mem_iff.mp hq),S.sl⟩
theorem wA {Ω':Om}{sts:List Stmt}(p:Ω'.Perm Ω)(h:W3 X B sts Γ Ω' E):W3 X B sts Γ Ω E:=fun F σ H S=>h F σ H (S.perm p)
theorem Sat.turn {K:W.Frag}{F:Hp}{σ:L2.St}{H:Hp}{a:Addr}{w w':Ow}{o:HO}(S:Sat K B Γ ((a,w)::Ω) F σ H)(h:∀ F',yW F F'->w' F' o):Sat K B Γ ((a,w')::Ω) F σ (upd H a o):=by
 obtain⟨fa,o0,ha,_⟩:=S.own (a,w) (by simp);have nin:=(Yc.mp S.nd).1;refine⟨S.f0,fun b u e=>?_,S.fr,fun b u hb e=>?_,S.nd,fun q hq=>?_,fun q hq=>?_,S.sl⟩
 ·rw[yA (yZ e fa)];exact S.fh _ _ e
 ·by_cases z:b=a
  ·subst z;rcases S.od (b,w) (by simp) with y|y
   ·exact absurd y hb
   ·have y':B.H b=none:=y;rw[y'] at e;cases e
  ·rw[yA z];exact S.kp b u hb e
 ·rcases yP.mp hq with z|z
  ·subst z;exact S.od (a,w) (by simp)
  ·exact S.od q (yc _ z)
 ·rcases yP.mp hq with z|z
  ·subst z;exact⟨fa,o,yN,h⟩
  ·obtain⟨h1,o',h2,h3⟩:=S.own q (yc _ z);have ne:q.1≠a:=fun e=>nin (yx.mpr ⟨q,z,e⟩);exact⟨h1,o',by rw[yA ne];exact h2,h3⟩
theorem vo {i:Nat}{a:Addr}{d:D}{apos np ppos:Pos}(hi:X.N[i]?=some x)(hv:Vis X.env.scope x)(hΓ:Γ[i]?=some (some (.raw (.ref a))))(he:P3 X Γ e d)(hz:ds.length<sizeLine)(h:W3 X B rest Γ ((a,Q3 X.K (ds++[d]))::Ω) E)
  (hs:∀ {t:TE},PE X (.Call (.Attribute (.Name x np) "append" apos) [e] [] ppos) t->PS X (.Expr (.Call (.Attribute (.Name x np) "append" apos) [e] [] ppos) pos) (bX t):=by exact fun h=>VL h)
  (hd:(x==("__debug__" : Str))=false:=by decide) (hcd:(x==("__classdict__" : Str))=false:=by decide) (hst:starEach [e] X.env=(false,eval e X.env)::starEach [] X.env:=by rfl)
  (hp:∀ {to:TE} {ta:TA},PE X (.Name x np) to->PA X [e] ta->PE X (.Call (.Attribute (.Name x np) "append" apos) [e] [] ppos) (tBM X.K "list" wW to ta):=by exact fun a b=>i7 PySem.F.plainAttrs_list PySem.F.slot_list_append PySem.F.type_list_append VS a b) :
  W3 X B (.Expr (.Call (.Attribute (.Name x np) "append" apos) [e] [] ppos) pos::rest) Γ ((a,Q3 X.K ds)::Ω) E:=fun F σ H S pins s I=>by
 obtain⟨v,e1,e2⟩:=S.sl i _ hΓ;cases isR e2;obtain⟨fa,o0,ha,ho⟩:=S.own (a,Q3 X.K ds) (by simp);obtain⟨xs,rfl,il⟩:=ho F (yW.refl _);refine Y7 (hs (hp (aI hi hv hd hcd) (yb he yn hst))) qL pins s σ H _ I ⟨_,e1,.inl ⟨rfl,_,SqL.of ha⟩,F,S.fh,S.sl,fun vs H' F' pu iv=>?_⟩;obtain⟨y,rfl,iy⟩:=K5 iv;have S1:=S.pur pu;refine⟨a,xs,y,rfl,rfl,pu.hh _ _ ha,by rw[il.len];exact hz,Y5 pu.ff (h F' σ _ (S1.turn fun F2 e2=>⟨_,rfl,(il.mono (pu.ff.trans e2)).append (IsL.cons (iy.mono e2) IsL.nil)⟩))⟩
theorem zj {sts:List Stmt}{i:Nat}{a:Addr}(hΓ:Γ[i]?=some (some (.raw (.ref a))))(h:W3 X B sts (Γ.set i (some (.lst ds))) Ω E):W3 X B sts Γ ((a,Q3 X.K ds)::Ω) E:=fun F σ H S=>by
 obtain⟨v,e1,e2⟩:=S.sl i _ hΓ;cases isR e2;obtain⟨fa,o0,ha,ho⟩:=S.own (a,Q3 X.K ds) (by simp);obtain⟨xs,rfl,il⟩:=ho F (yW.refl _);have nin:=(Yc.mp S.nd).1;have w:yW F (upd F a (.lst xs)):=fun b u q=>by rw[yA (yZ q fa)];exact q
 refine Y5 w (h (upd F a (.lst xs)) σ H ⟨S.f0.trans w,fun b u q=>?_,fun b q=>?_,S.kp,(Yc.mp S.nd).2,fun q hq=>S.od q (yc _ hq),fun q hq=>?_,fun j d q=>?_⟩)
 ·by_cases hb:b=a
  ·subst hb;rw[yN] at q;cases q;exact ha
  ·rw[yA hb] at q;exact S.fh _ _ q
 ·by_cases hb:b=a
  ·subst hb;exact(S.od (b,Q3 X.K ds) (by simp)).elim (fun z=>.inr (.inr z)) fun z=>.inr (.inl z)
  ·rw[yA hb] at q;exact S.fr b q
 ·obtain⟨h1,o',h2,h3⟩:=S.own q (yc _ hq);have ne:q.1≠a:=fun e=>nin (yx.mpr ⟨q,hq,e⟩);exact⟨by rw[yA ne];exact h1,o',h2,fun F2 e=>h3 F2 (w.trans e)⟩
 ·by_cases hj:i=j
  ·subst hj;rw[Y3] at q;split at q
   ·split at q
    ·cases q;exact⟨_,e1,Is.lstI (.inl yN) (il.mono w)⟩
    ·cases q
   ·contradiction
  ·rw[YW hj] at q;obtain⟨u,h1,h2⟩:=S.sl j d q;exact⟨u,h1,h2.mono w⟩
end
inductive VR (K:W.Frag)(B:Bs)(Γ:Ga)(F:Hp)(σ:L2.St)(R:D->Om->Prop)(v:V)(H':Hp):Prop
 |mk (d:D) (Ω':Om) (F':Hp) (S:Sat K B Γ Ω' F' σ H') (f:yW F F') (i:Is K F' d v) (r:R d Ω')
inductive VTR (K:W.Frag)(B:Bs)(Γ:Ga)(F:Hp)(σ:L2.St)(R:Bool->Om->Prop)(k:Bool)(H':Hp):Prop
 |mk (Ω':Om) (F':Hp) (S:Sat K B Γ Ω' F' σ H') (f:yW F F') (r:R k Ω')
inductive VLR (K:W.Frag)(B:Bs)(Γ:Ga)(F:Hp)(σ:L2.St)(R:List D->Om->Prop)(vs:List V)(H':Hp):Prop
 |mk (ds:List D) (Ω':Om) (F':Hp) (S:Sat K B Γ Ω' F' σ H') (f:yW F F') (i:IsL K F' ds vs) (r:R ds Ω')
def V3 (X:Cx)(B:Bs)(e:Expr)(Γ:Ga)(Ω:Om)(R:D->Om->Prop):Prop:=∀ F σ H,Sat X.K B Γ Ω F σ H->WE X e σ H (VR X.K B Γ F σ R)
def VT3 (X:Cx)(B:Bs)(e:Expr)(Γ:Ga)(Ω:Om)(R:Bool->Om->Prop):Prop:=∀ F σ H,Sat X.K B Γ Ω F σ H->WT X e σ H (VTR X.K B Γ F σ R)
def WL (X:Cx)(es:List Expr):TA:=fun σ H Q=>∀ (pos:Pos) (pins:List (Addr×Obj)) (s:Shared),Inv X pins σ H s->wpAny (model X.prog X.w) X.A (spliced (backTo pos (starEach es X.env))) (AP X pins σ Q) X.xe s
theorem pU {X:Cx}{es:List Expr}:PA X es (WL X es):=fun pos pins s σ H Q I h=>h pos pins s I
def VL3 (X:Cx)(B:Bs)(es:List Expr)(Γ:Ga)(Ω:Om)(R:List D->Om->Prop):Prop:=∀ F σ H,Sat X.K B Γ Ω F σ H->WL X es σ H (VLR X.K B Γ F σ R)
theorem WE.mono {X:Cx}{e:Expr}{σ:L2.St}{H:Hp}{Q Q':VK}(h:WE X e σ H Q)(i:∀ v H,Q v H->Q' v H):WE X e σ H Q':=fun pins s I=>thn (h pins s I) fun u s' ⟨v,H',I',r,q⟩=>⟨v,H',I',r,i _ _ q⟩
theorem WT.mono {X:Cx}{e:Expr}{σ:L2.St}{H:Hp}{Q Q':Bool->Hp->Prop}(h:WT X e σ H Q)(i:∀ v H,Q v H->Q' v H):WT X e σ H Q':=fun pins s I=>thn (h pins s I) fun u s' ⟨H',I',q⟩=>⟨H',I',i _ _ q⟩
theorem WL.mono {X:Cx}{e:List Expr}{σ:L2.St}{H:Hp}{Q Q':List V->Hp->Prop}(h:WL X e σ H Q)(i:∀ v H,Q v H->Q' v H):WL X e σ H Q':=fun p pins s I=>thn (h p pins s I) fun u s' ⟨v,H',I',r,q⟩=>⟨v,H',I',r,i _ _ q⟩
section
variable {X:Cx}{B:Bs}{Γ:Ga}{Ω:Om}{E:E3}{rest body:List Stmt}{a b c e:Expr}{es:List Expr}{d:D}{ds:List D}{pos pos' p:Pos}{R:D->Om->Prop}{RL:List D->Om->Prop}{RT:Bool->Om->Prop}{k:Bool}
theorem YH (h:P3 X Γ e d)(r:R d Ω):V3 X B e Γ Ω R:=fun F σ H S=>h.we ⟨F,S.fh,S.sl,fun v H' F' p i=>⟨d,Ω,F',S.pur p,p.ff,i,r⟩⟩
theorem ZH (h:PL3 X Γ es ds)(r:RL ds Ω):VL3 X B es Γ Ω RL:=fun F σ H S pos pins s I=>h pos pins s σ H _ I ⟨F,S.fh,S.sl,fun v H' F' p i=>⟨ds,Ω,F',S.pur p,p.ff,i,r⟩⟩
theorem ZM (h:V3 X B e Γ Ω fun d Ω1=>VL3 X B es Γ Ω1 fun ds Ω2=>RL (d::ds) Ω2)(hs:starEach (e::es) X.env=(false,eval e X.env)::starEach es X.env:=by rfl):VL3 X B (e::es) Γ Ω RL:=fun F σ H S pos pins s I=>
 vP JM pU hs pos pins s σ H _ I ((h F σ H S).mono fun x H1 ⟨d,Ω1,F1,S1,f1,i1,h1⟩=>(h1 F1 σ H1 S1).mono fun xs H2 ⟨ds,Ω2,F2,S2,f2,i2,r⟩=>⟨d::ds,Ω2,F2,S2,f1.trans f2,IsL.cons (i1.mono f2) i2,r⟩)
theorem eU {n k:Nat}{C:List D->D->Prop}{x:Str}{ps:List Str}(o:OkF X.prog X.w X.K X.mg X.base CX0 k x ps (spP X.K n C))(hr:Room k X.A)(hg:Gl X x)(h:VL3 X B (e::es) Γ Ω fun ds Ω1=>∃ d,C ds d/\ds.length=n/\R d Ω1)(hdb:(x==("__debug__" : Str))=false:=by decide)
  (he:starEach (e::es) X.env=(false,eval e X.env)::starEach es X.env:=by rfl) (hpl:(backTo pos (starEach es X.env)).any (·.1)=false:=by rfl):V3 X B (.Call (.Name x p) (e::es) [] pos) Γ Ω R:=fun F σ H S pins s I=>
 e6 o hr hg pU hdb he hpl pins s σ H _ I ((h F σ H S).mono fun vs H1 ⟨ds,Ω1,F1,S1,f1,i1,d,hC,hn,r⟩=>by
  rw[y9];exact⟨ds,d,F1,hC,hn,S1.fh,i1,fun v H2 F2 p2 i2=>⟨d,Ω1,F2,S1.pur p2,f1.trans p2.ff,i2,r⟩⟩)
theorem JP {i:Nat}{x:Str}(hN:X.N.Nodup)(hi:X.N[i]?=some x)(hx:Loc X.env.scope x)(h:V3 X B e Γ Ω fun d Ω1=>W3 X B rest (Γ.set i (some d)) Ω1 E)(hs:swapsWith e (some (.Name x pos')) pos.line X.env=pure false:=by rfl)
  (hf:X.fn x=true∨X.env.scope.names.lookup x=some .local:=by first|exact .inl rfl|exact .inr rfl|assumption):W3 X B (.Assign [.Name x pos'] e pos::rest) Γ Ω E:=fun F σ H S pins s I=>
 Y7 (X4 hN hi hx JM hs hf) qL pins s σ H _ I ((h F σ H S).mono fun v H1 ⟨d,Ω1,F1,S1,f1,i1,h1⟩=>Y5 f1 (h1 F1 _ H1 (S1.slots (Sl.set S1.sl (by rw[I.len];exact(yh.mp hi).1) i1))))
theorem XY (h:V3 X B e Γ Ω E.rt):W3 X B (.Return (some e) pos::rest) Γ Ω E:=fun F σ H S pins s I=>
 Y7 (ii JM) vM pins s σ H _ I ((h F σ H S).mono fun v H1 ⟨d,Ω1,F1,S1,f1,i1,h1⟩=>⟨d,Ω1,F1,⟨σ,S1.slots Sl.nil⟩,f1,i1,h1⟩)
theorem bL {a b:List Stmt}(h:VT3 X B c Γ Ω fun k Ω1=>(k=true->W3 X B a Γ Ω1 (E.then X B rest))/\(k=false->W3 X B b Γ Ω1 (E.then X B rest))):W3 X B (.If c a b pos::rest) Γ Ω E:=fun F σ H S pins s I=>
 Y7 (fH sS qL qL) qL pins s σ H _ I ((h F σ H S).mono fun k H1 ⟨Ω1,F1,S1,f1,h1,h2⟩=>by
  cases k with
  |true=>exact fZ (VO (Y5 f1 (h1 rfl F1 σ H1 S1)))
  |false=>exact fV (VO (Y5 f1 (h2 rfl F1 σ H1 S1))))
end
theorem Sat.new {K:W.Frag}{B:Bs}{Γ:Ga}{Ω:Om}{F F':Hp}{σ:L2.St}{H H':Hp}{a:Addr}{w:Ow}{o:HO}(S:Sat K B Γ Ω F σ H)(pu:Pur F H F' H')(ha:H a=none)(fa:F' a=none)(hH:H' a=some o)(h:∀ F2,yW F' F2->w F2 o):Sat K B Γ ((a,w)::Ω) F' σ H':=by
 have S1:=S.pur pu;have nin:a∉Ω.map (·.1):=fun z=>by
  obtain⟨q,hq,e⟩:=yx.mp z;obtain⟨_,o,h2,_⟩:=S.own q hq;rw[e,ha] at h2;cases h2
 refine⟨S1.f0,S1.fh,S1.fr,S1.kp,Yc.mpr ⟨nin,S1.nd⟩,fun q hq=>?_,fun q hq=>?_,S1.sl⟩
 ·rcases yP.mp hq with z|z
  ·subst z;exact(S.freeB ha).symm
  ·exact S1.od q z
 ·rcases yP.mp hq with z|z
  ·subst z;exact⟨fa,_,hH,h⟩
  ·exact S1.own q z
def WI (X:Cx)(tg iter:Expr):TI:=fun σ H R=>∀ (pins:List (Addr×Obj)) (s:Shared),Inv X pins σ H s->wpAny (model X.prog X.w) X.A (eval iter X.env) (fun v s1=>wpAny (model X.prog X.w) X.A (pyIter v) (PIE X pins σ tg R) X.xe s1) X.xe s
theorem sV {X:Cx}{tg iter:Expr}:PI X tg iter (WI X tg iter):=fun pins s σ H R I h=>h pins s I
theorem WI.mono {X:Cx}{tg iter:Expr}{σ:L2.St}{H:Hp}{R R':It->Hp->Prop}(h:WI X tg iter σ H R)(i:∀ J H,R J H->R' J H):WI X tg iter σ H R':=fun pins s I=>thn (h pins s I) fun v s1 h1=>thn h1 fun itv s2 ⟨it,fp,tn,J,H',e,I',T,t0,f,r⟩=>⟨it,fp,tn,J,H',e,I',T,t0,f,i _ _ r⟩
inductive IVR (K:W.Frag)(B:Bs)(Γ:Ga)(F:Hp)(σ:L2.St)(R:List D->Om->Prop)(J:It)(H':Hp):Prop
 |mk (ds:List D) (Ω':Om) (F':Hp) (S:Sat K B Γ Ω' F' σ H') (f:yW F F') (i:bO K F' J ds) (r:R ds Ω')
def IV3 (X:Cx)(B:Bs)(tg iter:Expr)(Γ:Ga)(Ω:Om)(R:List D->Om->Prop):Prop:=∀ F σ H,Sat X.K B Γ Ω F σ H->WI X tg iter σ H (IVR X.K B Γ F σ R)
section
variable {X:Cx}{B:Bs}{Γ:Ga}{Ω:Om}{E:E3}{rest body:List Stmt}{tg iter a b e:Expr}{es:List Expr}{d:D}{ds:List D}{pos pos' p:Pos}{R:D->Om->Prop}{RL:List D->Om->Prop}
theorem ut (hp:PassesOwn (model X.prog X.w) X.A X.env X.xe)(hc:X.calm=true)
  (h:IV3 X B tg iter Γ Ω fun ds Ω1=>∃ J:Nat->Ga->Om->Prop,J 0 Γ Ω1/\(∀ i d Γ Ω,ds[i]?=some d->J i Γ Ω->∃ Γ1,G3 X tg Γ d Γ1/\W3 X B body Γ1 Ω {E with nx:=J (i+1),ct:=J (i+1),bk:=fun Γ' Ω'=>W3 X B rest Γ' Ω' E})/\∀ Γ Ω,J ds.length Γ Ω->W3 X B rest Γ Ω E)
  (hs:∀ x,foldedSetIterable iter X.env x=pure x:=by intro _;rfl):W3 X B (.For tg iter body [] pos::rest) Γ Ω E:=fun F σ H S pins s I=>by
 refine Y7 (fF hp hc sV me qL hs) qL pins s σ H _ I ((h F σ H S).mono fun Jt H1 ⟨ds,Ω1,F1,S1,p1,w,J,h0,step,hd⟩=>⟨fun i m σ H=>i+m=ds.length/\nX X.K B F1 (J i) σ H,⟨ds.length,by omega,Γ,Ω1,F1,S1,yW.refl _,h0⟩,?_⟩);rintro i m σ H ⟨hm,Γ,Ω,F2,S,f1,j⟩;obtain⟨w1,w2⟩:=w i F2 H f1 S.fh;cases z:ds[i]? with
 |none=>
  have hl:ds.length<=i:=yt.mp z;have e:i=ds.length:=by omega
  subst e;exact .inl ⟨w2 hl,Y5 (p1.trans f1) (hd Γ Ω j F2 σ H S)⟩
 |some d=>
  have hl:i<ds.length:=(yh.mp z).1;obtain⟨go,y⟩:=w1 d z;obtain⟨Γ1,⟨g,pg,gq⟩,wb⟩:=step i d Γ Ω z j;refine .inr ⟨go,nX X.K B F1 (J (i+1)),?_,fun x H' hy pins s u I2 r=>?_⟩
  ·rintro σ' H' n;exact⟨m - 1,by omega,by omega,n⟩
  ·obtain⟨F3,p2,ix⟩:=y x H' hy;refine pg pins s σ H' x u _ I2 r (gq F3 σ H' x _ p2.fh ix (S.sl.mono p2.ff) I2.len fun σ' sl' _=>?_);have f3:yW F1 F3:=f1.trans p2.ff;exact qS (D:=E3.to X.K B F3 {E with nx:=J (i+1),ct:=J (i+1),bk:=fun Γ' Ω'=>W3 X B rest Γ' Ω' E}) (D':={nx:=nX X.K B F1 (J (i+1)),rt:=(E.to X.K B F).rt,bk:=WS X rest (E.to X.K B F),ct:=nX X.K B F1 (J (i+1))})
    (fun _ _ q=>q.mono f3) (fun v H ⟨d,Ω,F,S,f,i,r⟩=>⟨d,Ω,F,S,(p1.trans f3).trans f,i,r⟩) (fun _ _ q=>Kg (q.mono (p1.trans f3))) (fun _ _ q=>q.mono f3) (wb F3 σ' H' ((S.pur p2).slots sl'))
theorem Vi (h:PF3 X Γ e ds)(r:∀ a,R (.raw (.ref a)) ((a,Q3 X.K ds)::Ω)):V3 X B e Γ Ω R:=fun F σ H S pins s I=>h pins s σ H _ I ⟨F,S.fh,S.sl,fun a xs H' F' pu ha fa hH il=>⟨_,_,F',S.new pu ha fa hH (fun F2 e=>⟨xs,rfl,il.mono e⟩),pu.ff,Vz F',r a⟩⟩
theorem cK {o i:Expr}{spos tpos:Pos}(h:V3 X B e Γ Ω fun d Ω1=>V3 X B o Γ Ω1 fun dq Ω2=>∃ l,dq=.raw (.ref l)/\V3 X B i Γ Ω2 fun di Ω3=>∃ k j ds Ω4,di=.int k/\Ω3.Perm ((l,Q3 X.K ds)::Ω4)/\ixN ds.length k=some j/\W3 X B rest Γ ((l,Q3 X.K (ds.set j d))::Ω4) E)
  (hs:swapsWithSole [.Subscript o i tpos] e spos.line X.env=pure false:=by rfl) (hw:swappedStores [.Subscript o i tpos] e X.env=pure none:=by rfl) (h1:(assignEach [.Subscript o i tpos] X.env).map (·.2)=[assign (.Subscript o i tpos) X.env]:=by rfl)
  (ha:∀ v,assign (.Subscript o i tpos) X.env v=(do
   let ov ←holding [v] (eval o X.env)
   let iv ←holding [v,ov] (eval i X.env)
   standAt tpos
   holding [v,ov,iv] (setItem ov iv v)
   release [v,ov,iv] []):=by intro _;rfl):W3 X B (.Assign [.Subscript o i tpos] e spos::rest) Γ Ω E:=fun F σ H S pins s I=>
 Y7 (iW JM (gp JM JM lf ha) hs hw h1) qL pins s σ H _ I ((h F σ H S).mono fun v H1 ⟨d,Ω1,F1,S1,f1,i1,h1⟩=>(h1 F1 σ H1 S1).mono fun y H2 ⟨dq,Ω2,F2,S2,f2,i2,l,e2,h2⟩=>(h2 F2 σ H2 S2).mono fun z H3 ⟨di,Ω3,F3,S3,f3,i3,k,j,ds,Ω4,e3,pm,hj,h3⟩=>by
  subst e2 e3;cases isR i2;have S4:=S3.perm pm.symm;obtain⟨fa,o',ha',ho⟩:=S4.own (l,Q3 X.K ds) (by simp);obtain⟨xs,rfl,il⟩:=ho F3 (yW.refl _);refine⟨l,xs,k,j,rfl,isI i3,ha',by rw[il.len];exact hj,?_⟩;exact Y5 (f1.trans (f2.trans f3)) (h3 F3 σ _ (S4.turn fun F5 e5=>⟨_,rfl,(il.mono e5).set j (i1.mono (f2.trans (f3.trans e5)))⟩)))
end
def sh (q:Rat):D:=.tup [.int q.num,.int (q.den:Int)]
def Sz (n:Nat)(q:Rat):Prop:=q.num.natAbs<2 ^ n/\q.den<2 ^ n
theorem Sz.mono {m n:Nat}{q:Rat}(h:Sz m q)(l:m<=n):Sz n q:=
 ⟨yE h.1 (QH (by decide) l),yE h.2 (QH (by decide) l)⟩
theorem uz {x:Int}{n:Nat}(h:x.natAbs<2 ^ n):Builtin.Int.intBits x<=n:=PySem.intBits_le_iff.mpr h
theorem Jd {a b:Int}{m n:Nat}(ha:a.natAbs<2 ^ m)(hb:b.natAbs<2 ^ n)(h:m+n<=134217728):IntMulOk a b:=PySem.IntMulOk.of_le (uz ha) (uz hb) h
theorem fT (m n:Nat):2 ^ (m+n)=2 ^ m*2 ^ n:=Nat.pow_add 2 m n
theorem YY {a b:Int}{m n:Nat}(ha:a.natAbs<2 ^ m)(hb:b.natAbs<2 ^ n):(a*b).natAbs<2 ^ (m+n):=by
 rw[Int.natAbs_mul,fT];exact Nat.mul_lt_mul'' ha hb
theorem Jz {t b:Int}{n:Nat}(hb:0<b)(h1:t.natAbs<2 ^ n)(h2:b.natAbs<2 ^ n):Sz n (Rat.divInt t b):=by
 constructor
 ·rw[Rat.num_divInt,Int.sign_eq_one_of_pos hb,Int.one_mul];refine Qx ?_ h1;rw[Int.natAbs_ediv_of_dvd (Int.gcd_dvd_right _ _)];exact Nat.div_le_self _ _
 ·rw[Rat.den_divInt,yd (by omega)];exact Qx (Nat.div_le_self _ _) h2
theorem X2 {m n:Nat}{p q:Rat}(hp:Sz m p)(hq:Sz n q):Sz (m+n+1) (p+q):=by
 rw[←My.q_add];have a1:=YY hp.1 (show(q.den:Int).natAbs<2 ^ n from hq.2);have a2:=YY hq.1 (show(p.den:Int).natAbs<2 ^ m from hp.2);have a3:=YY (show(p.den:Int).natAbs<2 ^ m from hp.2) (show(q.den:Int).natAbs<2 ^ n from hq.2);rw[Nat.add_comm n m] at a2;have e:2 ^ (m+n+1)=2 ^ (m+n)+2 ^ (m+n):=by rw[Nat.pow_succ];omega
 refine Jz (jm (My.den_pos' p) (My.den_pos' q)) ?_ ?_
 ·rw[e];refine Qx (Int.natAbs_add_le _ _) ?_;omega
 ·rw[e];omega
theorem Xc {m n:Nat}{p q:Rat}(hp:Sz m p)(hq:Sz n q):Sz (m+n+1) (p - q):=by
 rw[←My.q_sub];have a1:=YY hp.1 (show(q.den:Int).natAbs<2 ^ n from hq.2);have a2:=YY hq.1 (show(p.den:Int).natAbs<2 ^ m from hp.2);have a3:=YY (show(p.den:Int).natAbs<2 ^ m from hp.2) (show(q.den:Int).natAbs<2 ^ n from hq.2);rw[Nat.add_comm n m] at a2;have e:2 ^ (m+n+1)=2 ^ (m+n)+2 ^ (m+n):=by rw[Nat.pow_succ];omega
 refine Jz (jm (My.den_pos' p) (My.den_pos' q)) ?_ ?_
 ·rw[e];refine Qx (Int.natAbs_sub_le _ _) ?_;omega
 ·rw[e];omega
theorem v4 {m n:Nat}{p q:Rat}(hp:Sz m p)(hq:Sz n q):Sz (m+n) (p*q):=by
 rw[←My.q_mul];exact Jz (jm (My.den_pos' p) (My.den_pos' q)) (YY hp.1 hq.1) (YY (show(p.den:Int).natAbs<2 ^ m from hp.2) (show(q.den:Int).natAbs<2 ^ n from hq.2))
theorem aL {m n:Nat}{p q:Rat}(hp:Sz m p)(hq:Sz n q)(h0:0<q):Sz (m+n) (p / q):=by
 rw[←My.q_div];exact Jz (jm (My.den_pos' p) (My.q_num_pos h0)) (YY hp.1 (show(q.den:Int).natAbs<2 ^ n from hq.2)) (YY (show(p.den:Int).natAbs<2 ^ m from hp.2) hq.1)
theorem V4:Sz 1 0:=by constructor <;> decide
theorem VA:Sz 1 1:=by constructor <;> decide
theorem ul {p q:Rat}(a:0<=p)(b:0<=q):0<=p+q:=by grind
theorem zr {p q:Rat}(a:0<=p)(b:0<=q):0<=p*q:=QC a b
theorem WJ {p q:Rat}(a:0<=p)(b:0<q):0<=p / q:=by
 rw[Qh];exact QC a (Yu (Rat.inv_pos.mpr b))
abbrev big:Nat:=67108864
def tK:List D->D->Prop:=fun ds d=>∃ a b:Int,ds=[.int a,.int b]/\d=.int (My.G a b)/\0<=a/\0<=b
def aZ:List D->D->Prop:=fun ds d=>∃ t b:Int,ds=[.int t,.int b]/\d=sh (Rat.divInt t b)/\0<=t/\0<b
def mJ (f:Rat->Rat->Rat)(C:Rat->Rat->Prop):List D->D->Prop:=fun ds d=>∃ (p q:Rat) (m n:Nat),ds=[sh p,sh q]/\d=sh (f p q)/\0<=p/\0<=q/\Sz m p/\Sz n q/\m<=big/\n<=big/\C p q
abbrev lZ:=mJ (fun p q=>p+q) fun _ _=>True
abbrev lI:=mJ (fun p q=>p*q) fun _ _=>True
abbrev aD:=mJ (fun p q=>p - q) fun p q=>q<=p
abbrev gR:=mJ (fun p q=>p / q) fun _ q=>0<q
def oN:List D->D->Prop:=fun ds d=>∃ (p q:Rat) (m n:Nat),ds=[sh p,sh q]/\d=.bl (decide (p<q))/\Sz m p/\Sz n q/\m<=big/\n<=big
theorem QY {q:Rat}{n:Nat}(h:Sz n q):((q.den:Int)).natAbs<2 ^ n:=h.2
theorem VV {p q:Rat}{m n:Nat}(hp:Sz m p)(hq:Sz n q)(h1:m<=big)(h2:n<=big):IntMulOk p.num q.den:=Jd hp.1 (QY hq) (by have:big=67108864:=rfl;omega)
theorem rS {p q:Rat}{m n:Nat}(hp:Sz m p)(hq:Sz n q)(h1:m<=big)(h2:n<=big):IntMulOk p.num q.num:=Jd hp.1 hq.1 (by have:big=67108864:=rfl;omega)
theorem fM {p q:Rat}{m n:Nat}(hp:Sz m p)(hq:Sz n q)(h1:m<=big)(h2:n<=big):IntMulOk p.den q.den:=Jd (QY hp) (QY hq) (by have:big=67108864:=rfl;omega)
theorem fj {p q:Rat}(h:sh p=sh q):p=q:=by
 unfold sh at h;simp only[D.tup.injEq,List.cons.injEq,D.int.injEq,and_true] at h;exact My.q_inj h.1 h.2
theorem jR {p q:Rat}:Y2 (sh p) (sh q)=decide (p=q):=by
 by_cases h:p=q
 ·subst h;rw[Zg (by rfl)];simp
 ·rw[bC (fun z=>h (fj z)),yC h]
theorem j5 {p q:Rat}:kin (sh p) (sh q)=true:=by rfl
theorem j4 {p:Rat}:dep (sh p)<=60:=by
 show max 0 (max 0 0)+1<=60;decide
def ql (K:W.Frag)(mg:Str->Option Value)(x:Str)(d:D):Prop:=∃ (v:V) (u:Value),mg x=some u/\YA v u/\∀ F,Is K F d v
theorem YB {X:Cx}{Γ:Ga}{x:Str}{d:D}{pos:Pos}(h:ql X.K X.mg x d)(hg:Gl X x)(hd:(x==("__debug__" : Str))=false:=by decide):P3 X Γ (.Name x pos) d:=by
 obtain⟨v,u,hm,r,i⟩:=h;exact o7 hg hm r i hd
structure Zs (mg:Str->Option Value):Prop where
 len:mg "len" = none
 range:mg "range" = none
 list:mg "list" = none
 tuple:mg "tuple" = none
 int:mg "int" = none
 bool:mg "bool" = none
 str:mg "str" = none
 dict:mg "dict" = none
 isinstance:mg "isinstance" = none
 sum:mg "sum" = none
 enumerate:mg "enumerate" = none
 zip:mg "zip" = none
 ValueError:mg "ValueError" = none
 all:mg "all" = none
 any:mg "any" = none
 reversed:mg "reversed" = none
theorem JJ {a b:Int}(p:0<b):0<=a % b/\a % b<b:=⟨Int.emod_nonneg a (by omega),Int.emod_lt_of_pos a p⟩
theorem a9 {a b:Int}(ha:0<=a)(hb:0<b):My.G b (a % b)=My.G a b:=by
 rw[←Qp a (yz hb)];exact My.G_turn ha hb
theorem p7 {p q:Rat}:(0:Int)<p.den*q.den:=jm (My.den_pos' p) (My.den_pos' q)
theorem pN {p q:Rat}(h:q<=p):0<=p.num*q.den - q.num*p.den:=by
 have:=(Rat.le_iff q p).mp h;omega
theorem j3 {X:Cx}{Γ:Ga}{e:Expr}{d d':D}(h:P3 X Γ e d')(q:d'=d):P3 X Γ e d:=q▸h
def pC:List D->D->Prop:=fun ds d=>∃ (ns:List Int) (k:Nat),ds=[.scr ns,.int (k:Int)]/\d=.int (ns.getD k 0)
theorem dM {a b:Int}(h:b.natAbs<2 ^ 64):IntMulOk a b:=IntMulOk.of_right (uz h)
def jl:Nat->(Nat->Rat)->Rat
 |0,_=>0
 |n+1,f=>jl n f+f n
theorem zp {n:Nat}{f g:Nat->Rat}(h:∀ j,j<n->f j=g j):jl n f=jl n g:=by
 induction n with
 |zero=>rfl
 |succ n ih=>rw[jl,jl,ih (fun j hj=>h j (by omega)),h n (by omega)]
theorem gu {n:Nat}{f g:Nat->Rat}:jl n (fun j=>f j+g j)=jl n f+jl n g:=by
 induction n with
 |zero=>simp only[jl];grind
 |succ n ih=>rw[jl,jl,jl,ih];grind
theorem xw {n:Nat}{c:Rat}{f:Nat->Rat}:jl n (fun j=>c*f j)=c*jl n f:=by
 induction n with
 |zero=>simp only[jl];grind
 |succ n ih=>rw[jl,jl,ih];grind
theorem cX {n:Nat}{f:Nat->Rat}(h:∀ j,j<n->f j=0):jl n f=0:=by
 induction n with
 |zero=>rfl
 |succ n ih=>rw[jl,ih (fun j hj=>h j (by omega)),h n (by omega)];grind
theorem f6 {n k:Nat}{f:Nat->Rat}(hk:k<n):jl n (fun j=>if j=k then 0 else f j)=jl n f - f k:=by
 induction n with
 |zero=>omega
 |succ n ih=>
  rw[jl,jl];by_cases h:k=n
  ·subst h;rw[ye rfl,zp (g:=f) fun j hj=>yd (by omega)];grind
  ·rw[yd (fun z=>h z.symm),ih (by omega)];grind
def tb {α:Type}(n:Nat)(f:Nat->α):List α:=(List.range n).map f
theorem ja {α:Type}{n k:Nat}{f:Nat->α}(h:k<n):(tb n f)[k]?=some (f k):=by
 unfold tb;rw[yl,qO h];rfl
theorem Yk {α:Type}{n:Nat}{f:Nat->α}:(tb n f).length=n:=by unfold tb;simp
theorem Zi {α:Type}{n:Nat}{f g:Nat->α}(h:∀ j,j<n->f j=g j):tb n f=tb n g:=Qy fun j hj=>h j (jL.mp hj)
theorem b7 {α:Type}{n k:Nat}{f:Nat->α}(h:k<=n):(tb n f).take k=tb k f:=by
 unfold tb;rw[←List.map_take,List.take_range,Nat.min_eq_left h]
theorem Ql {α:Type}{n:Nat}{f:Nat->α}:tb (n+1) f=tb n f++[f n]:=by
 unfold tb;rw[QA,yr];rfl
theorem pT {α:Type}{n k:Nat}{f:Nat->α}{x:α}:(tb n f).set k x=tb n fun j=>if j=k then x else f j:=by
 refine qe fun i=>?_;by_cases h:i<n
 ·rw[ja h,Y3];by_cases hk:k=i
  ·subst hk;rw[ye rfl,ye rfl,ye (by rw[Yk];exact h)]
  ·rw[yd hk,ja h,yd (fun z=>hk z.symm)]
 ·rw[yt.mpr (by rw[List.length_set,Yk];omega),yt.mpr (by rw[Yk];omega)]
theorem dJ {α β:Type}{n:Nat}{f:Nat->α}{g:Nat->α->β}:(tb n f).mapIdx g=tb n fun j=>g j (f j):=by
 refine qe fun i=>?_;rw[List.getElem?_mapIdx];by_cases h:i<n
 ·rw[ja h,ja h];rfl
 ·rw[yt.mpr (by rw[Yk];omega),yt.mpr (by rw[Yk];omega)];rfl
theorem XO {α β:Type}{n:Nat}{f:Nat->α}{g:Nat->β}:(tb n f).zip (tb n g)=tb n fun j=>(f j,g j):=by
 refine qe fun i=>?_;by_cases h:i<n
 ·rw[ja h];exact YE.mpr ⟨ja h,ja h⟩
 ·rw[yt.mpr (by rw[YG,Yk,Yk];omega),yt.mpr (by rw[Yk];omega)]
theorem zU {α:Type}{n k:Nat}{f:Nat->α}(h:k<n):atI (tb n f) (k:Int)=some (f k):=by
 unfold atI ixN;rw[Yk,ye (by omega),ye (by omega)];show(tb n f)[((k:Int)).toNat]?=_;rw[Qe];exact ja h
def shR (m:Nat)(f:Nat->Rat):D:=.lst (tb m fun j=>sh (f j))
def shM (n m:Nat)(E:Nat->Nat->Rat):D:=.lst (tb n fun i=>shR m (E i))
theorem vO {m:Nat}{f g:Nat->Rat}(h:∀ j,j<m->f j=g j):shR m f=shR m g:=by
 unfold shR;rw[Zi fun j hj=>by rw[h j hj]]
def zP (E:Nat->Nat->Rat)(k:Nat):Nat->Nat->Rat:=fun i j=>
 if i=k then (if j=k then 0 else E k j / (1 - E k k)) else (if j=k then 0 else E i j+E i k*(E k j / (1 - E k k)))
def EK (E:Nat->Nat->Rat):Nat->Nat->Nat->Rat
 |0=>E
 |k+1=>zP (EK E k) k
def ve (n m s:Nat)(E:Nat->Nat->Rat):Prop:=∀ i j,i<n->j<m->0<=E i j/\Sz s (E i j)
theorem vq {q:Rat}(h:q<1):0<1 - q:=by grind
theorem ve.step {n m s k:Nat}{E:Nat->Nat->Rat}(h:ve n m s E)(hk:k<n)(hm:k<m)(h1:E k k<1):ve n m (4*s+3) (zP E k):=fun i j hi hj=>by
 have a:=h k k hk hm;have b:=h k j hk hj;have c:=h i j hi hj;have e:=h i k hi hm;have p:=vq h1;have z:Sz (4*s+3) (0:Rat):=V4.mono (by omega);have g0:0<=E k j / (1 - E k k):=WJ b.1 p;have gs:Sz (s+(1+s+1)) (E k j / (1 - E k k)):=aL b.2 (Xc VA a.2) p;unfold zP;by_cases h1:i=k
 ·rw[ye h1];by_cases h2:j=k
  ·rw[ye h2];exact⟨by decide,z⟩
  ·rw[yd h2];exact⟨g0,gs.mono (by omega)⟩
 ·rw[yd h1];by_cases h2:j=k
  ·rw[ye h2];exact⟨by decide,z⟩
  ·rw[yd h2];exact⟨ul c.1 (zr e.1 g0),(X2 c.2 (v4 e.2 gs)).mono (by omega)⟩
def Piv (n:Nat)(E:Nat->Nat->Rat):Prop:=∀ k,k<n->EK E k k k<1
def sK (s:Nat):Nat->Nat
 |0=>s
 |k+1=>4*sK s k+3
theorem mf {s j k:Nat}(h:j<=k):sK s j<=sK s k:=by
 induction k with
 |zero=>rw[Nat.le_zero.mp h];exact yo _
 |succ k ih=>
  rcases Nat.lt_or_ge j (k+1) with h1|h1
  ·have:=ih (by omega);rw[sK];omega
  ·rw[show j=k+1 by omega];exact yo _
theorem ve.at {n m s:Nat}{E:Nat->Nat->Rat}(h:ve n m s E)(hm:n<=m):∀ k,k<=n->(∀ j,j<k->EK E j j j<1)->ve n m (sK s k) (EK E k)
 |0,_,_=>h
 |k+1,hk,hp=>(ve.at h hm k (by omega) fun j hj=>hp j (by omega)).step (by omega) (by omega) (hp k (by omega))
theorem wD {E:Nat->Nat->Rat}:∀ k i j,j<k->EK E k i j=0
 |0,_,_,h=>by omega
 |k+1,i,j,h=>by
  rw[EK];unfold zP;by_cases h2:j=k
  ·rw[ye h2,ye h2];simp
  ·rw[yd h2,yd h2,wD k k j (by omega),wD k i j (by omega)];split <;> grind
def Slv (n:Nat)(E:Nat->Nat->Rat)(x:Nat->Rat):Prop:=∀ i,i<n->x i=jl n (fun j=>E i j*x j)+E i n
theorem Slv.back {n k:Nat}{E:Nat->Nat->Rat}{x:Nat->Rat}(hk:k<n)(h1:E k k<1)(h:Slv n (zP E k) x):Slv n E x:=by
 have p:=vq h1;have ne:1 - E k k≠0:=by grind
 have hn:¬ n=k:=by omega
 have row:∀ c:Nat->Rat,jl n (fun j=>(if j=k then 0 else c j)*x j)=jl n (fun j=>c j*x j) - c k*x k:=fun c=>by
  rw[←f6 (f:=fun j=>c j*x j) hk];refine zp fun j _=>?_;by_cases hj:j=k
  ·rw[ye hj,ye hj];grind
  ·rw[yd hj,yd hj]
 have g:jl n (fun j=>E k j / (1 - E k k)*x j)=jl n (fun j=>E k j*x j) / (1 - E k k):=by
  have:jl n (fun j=>E k j / (1 - E k k)*x j)=jl n (fun j=>(1 / (1 - E k k))*(E k j*x j)):=zp fun j _=>by grind
  rw[this,xw];grind
 have hx:x k=jl n (fun j=>E k j*x j)+E k n:=by
  have e:=h k hk;have e1:(fun j=>zP E k k j*x j)=fun j=>(if j=k then 0 else E k j / (1 - E k k))*x j:=by
   funext j;unfold zP;rw[ye rfl]
  have e2:zP E k k n=E k n / (1 - E k k):=by unfold zP;rw[ye rfl,yd hn]
  rw[e1,e2,row (fun j=>E k j / (1 - E k k)),g] at e;grind
 intro i hi;by_cases hik:i=k
 ·subst hik;exact hx
 ·have e:=h i hi;have e1:(fun j=>zP E k i j*x j)=fun j=>(if j=k then 0 else E i j+E i k*(E k j / (1 - E k k)))*x j:=by
   funext j;unfold zP;rw[yd hik]
  have e2:zP E k i n=E i n+E i k*(E k n / (1 - E k k)):=by unfold zP;rw[yd hik,yd hn]
  have e3:jl n (fun j=>(E i j+E i k*(E k j / (1 - E k k)))*x j)=jl n (fun j=>E i j*x j)+E i k*(jl n (fun j=>E k j*x j) / (1 - E k k)):=by
   rw[←g,←xw,←gu];exact zp fun j _=>by grind
  rw[e1,e2,row (fun j=>E i j+E i k*(E k j / (1 - E k k))),e3] at e;grind
theorem Slv.all {n:Nat}{E:Nat->Nat->Rat}(hp:Piv n E):Slv n E fun i=>EK E n i n:=by
 have last:Slv n (EK E n) fun i=>EK E n i n:=fun i hi=>by
  rw[cX fun j hj=>by rw[wD n i j hj];grind];grind
 have go:∀ k,k<=n->Slv n (EK E (n - k)) fun i=>EK E n i n:=fun k=>by
  induction k with
  |zero=>intro _;exact last
  |succ k ih=>
   intro hk;have e:=ih (by omega);rw[show n - k=(n - (k+1))+1 by omega,EK] at e;exact Slv.back (by omega) (hp _ (by omega)) e
 have:=go n (yo _)
 rwa [Nat.sub_self] at this
theorem Wa {n:Nat}{E E':Nat->Nat->Rat}(h:∀ i j,i<n->j<n->E i j=E' i j):∀ k,k<=n->∀ i j,i<n->j<n->EK E k i j=EK E' k i j
 |0,_,i,j,hi,hj=>h i j hi hj
 |k+1,hk,i,j,hi,hj=>by
  have ih:=Wa h k (by omega);rw[EK,EK];unfold zP;rw[ih k j (by omega) hj,ih k k (by omega) (by omega),ih i j hi hj,ih i k hi (by omega)]
def nnR (m s:Nat)(f:Nat->Rat):Prop:=∀ j,j<m->0<=f j/\Sz s (f j)
def cY:List D->D->Prop:=fun ds d=>∃ (m k:Nat) (f:Nat->Rat),ds=[shR m f,.int k]/\d=shR m (fun j=>if j=k then 0 else f j)/\k<m/\m<=10000
def dE:List D->D->Prop:=fun ds d=>∃ (m k s:Nat) (f:Nat->Rat),ds=[shR m f,.int k]/\d=shR m (fun j=>if j=k then 0 else f j / (1 - f k))/\k<m/\m<=10000/\nnR m s f/\4*s+3<=big/\f k<1
def sC:List D->D->Prop:=fun ds d=>∃ (m k s:Nat) (f g:Nat->Rat),ds=[shR m f,.int k,shR m g]/\d=shR m (fun j=>if j=k then 0 else f j+f k*g j)/\k<m/\m<=10000/\nnR m s f/\nnR m (2*s+2) g/\4*s+3<=big/\g k=0
theorem WF {n d k:Nat}(h:k<=n):HT.sIx n d (some (k:Int))=k:=by rw[HT.mZ];omega
theorem ft {ds:List D}{k:Nat}(h:k<=ds.length):wZ ds none (some (k:Int))=ds.take k:=by
 unfold wZ;rw[HT.WX,WF h];simp
theorem W8 {ds:List D}{k:Nat}(h:k<=ds.length):wZ ds (some (k:Int)) none=ds.drop k:=by
 unfold wZ;rw[HT.WX,WF h,List.take_of_length_le (by rw[List.length_drop];omega)]
theorem pO {α:Type}{m k:Nat}{f:Nat->α}{x:α}(h:k<m):(tb m f).take k++[x]++(tb m f).drop (k+1)=tb m fun j=>if j=k then x else f j:=by
 rw[←pT,List.set_eq_take_append_cons_drop,ye (by rw[Yk];exact h)];simp
theorem wS {m k:Nat}{f:Nat->D}(h:k<=m):wZ (tb m f) none (some (k:Int))=(tb m f).take k:=ft (by rw[Yk];exact h)
theorem bF {m k:Nat}{f:Nat->D}(h:k+1<=m):wZ (tb m f) (some ((k:Int)+1)) none=(tb m f).drop (k+1):=by
 rw[show((k:Int)+1)=((k+1:Nat):Int) by omega,W8 (by rw[Yk];exact h)]
theorem oU {m k:Nat}{f:Nat->Rat}{x:Rat}:(tb m fun j=>if j=k then sh x else sh (f j))=tb m fun j=>sh (if j=k then x else f j):=Zi fun j _=>by
 by_cases h:j=k
 ·rw[ye h,ye h]
 ·rw[yd h,yd h]
def XA (lo n:Nat):List D:=tb n fun j=>.int ((lo+j:Nat):Int)
theorem YS {lo n:Nat}:(XA lo n).length=n:=Yk
theorem jc {lo n i:Nat}{d:D}(h:(XA lo n)[i]?=some d):i<n/\d=.int ((lo+i:Nat):Int):=by
 have hi:=(yh.mp h).1;rw[YS] at hi;unfold XA at h;rw[ja hi] at h;cases h;exact⟨hi,rfl⟩
theorem UJ {lo n:Nat}:aJ (lo:Int) n=XA lo n:=by
 unfold aJ XA;refine Zi fun j _=>?_;congr 1
theorem QR {X:Cx}{Γ:Ga}{tg a:Expr}{p pos:Pos}{j:Int}{n:Nat}(hm:X.mg "range" = none)(hg:Gl X "range")(ha:P3 X Γ a (.int j))(hj:j=(n:Int))(hn:n<2 ^ 62)(hs:starEach [a] X.env=[(false,eval a X.env)]:=by rfl):I3 X Γ tg (.Call (.Name "range" p) [a] [] pos) (XA 0 n):=by
 subst hj;have h:=gK (tg:=tg) (p:=p) (pos:=pos) hm hg ha (by omega) (by omega) hs;rw[Qe,show(0:Int)=((0:Nat):Int) from rfl,UJ] at h;exact h
theorem i6 {X:Cx}{Γ:Ga}{tg a b:Expr}{p pos:Pos}{i j:Int}{lo n:Nat}(hm:X.mg "range" = none)(hg:Gl X "range")(ha:P3 X Γ a (.int i))(hb:P3 X Γ b (.int j))(hi:i=(lo:Int))(hj:(j - i).toNat=n)(hn:lo<2 ^ 61/\-(2 ^ 61)<=j/\j<2 ^ 61)
  (hs:starEach [a,b] X.env=[(false,eval a X.env),(false,eval b X.env)]:=by rfl) (hs2:starEach [b] X.env=[(false,eval b X.env)]:=by rfl):I3 X Γ tg (.Call (.Name "range" p) [a,b] [] pos) (XA lo n):=by
 subst hi hj;have h:=gP (tg:=tg) (p:=p) (pos:=pos) hm hg ha hb ⟨by omega,by omega,by omega,by omega⟩ hs hs2;rw[UJ] at h;exact h
section
variable {X:Cx}{B:Bs}{Γ:Ga}{Ω:Om}{E:E3}{rest body:List Stmt}{tg iter a b e:Expr}{es:List Expr}{d:D}{ds:List D}{pos pos' p:Pos}{RL:List D->Om->Prop}{RT:Bool->Om->Prop}
end
theorem fL {α:Type}{n:Nat}{f:Nat->α}:tb (n+1) f=f 0::tb n fun i=>f (i+1):=by
 unfold tb;rw[List.range_succ_eq_map,yy,Yx];rfl
section
variable {P:Program}{w:World}{K:W.Frag}{mg:Str->Option Value}{base:Heap}{x:Str}{st:Stmt}{N ps:List Str}{k n:Nat}
end
end L3
namespace L2
open PySem PySem.Spec PySem.Calls PyProof.Rows
section
variable {X:Cx}
theorem Uy:OpR X (compareOp .LtE) (fun x y H Q=>∃ i j,x=.str i/\y=.str j/\Q (.bl (!decide (j.cps.toList<i.cps.toList))) H):=by
 rintro pins s σ H x y v u Q I rx ry ⟨i,j,rfl,rfl,q⟩;obtain⟨t1,rfl⟩:=rx;obtain⟨t2,rfl⟩:=ry;exact PySem.P.le_str (qj I q rfl)
def Its (x:Str):It:=⟨fun i _=>i<x.cps.size,fun i H v H'=>H'=H/\∃ c,x.cps[i]?=some c/\v=.str ⟨#[c]⟩,fun i _=>x.cps.size<=i⟩
theorem eK {P:Program}{w:World}{K:W.Frag}{tg:Expr}(x:Str)(tk:Tok)(it:Addr):Turn P w K tg (Its x) [it] it (fun i h=>h.IsStrIter it "str_ascii_iterator" x tk i) where
 mem:=by simp
 obj:=fun i h st b hb=>by
  obtain⟨o,e1,c1,d1⟩:=st;rw[yD.mp hb];exact⟨o,e1,fun v z=>by rw[d1] at z;cases z⟩
 keep:=fun i h h' ⟨o,e1,r1⟩ k=>⟨o,k it (by simp) o e1,r1⟩
 item:=by
  intro X hP hw hK hc i pins s σ H E I hf st hg;subst hP hw hK;obtain⟨f0,f1,f2,f3,f4,f5⟩:=hf it (by simp);have hi:i<x.cps.size:=hg;have hx:x.cps[i]?=some x.cps[i]:=Array.getElem?_eq_getElem hi;refine wpAny_pyNext_ascii_item st hx fun h' st' sb=>?_;have I1:Inv X pins σ H {s with heap:=h',toks:=s.toks+1}:=I.turned (fun b o hb e=>(sb.2 b hb).trans e) f0 f1 f3 f4 f5;obtain⟨o,e1,c1,d1⟩:=id st';exact⟨_,rfl,xN (s:={s with heap:=h',toks:=s.toks+1}) e1 c1 d1 (by decide) ⟨.str ⟨#[x.cps[i]]⟩,H,I1,⟨_,rfl⟩,⟨rfl,_,hx,rfl⟩,st',fun b hb=>(hf b hb).1⟩⟩
 done:=by
  intro X hP hw hK hc i pins s σ H E I hf st hg;subst hP hw hK;obtain⟨f0,f1,f2,f3,f4,f5⟩:=hf it (by simp);have hi:x.cps.size<=i:=hg;exact wpAny_pyNext_ascii_end (I.ok.hd hc) st (Array.getElem?_eq_none_iff.mpr hi) fun h' eb=>⟨rfl,I.turned (t':=s.toks) (fun b o hb e=>eb b o hb e) f0 f1 f3 f4 f5⟩
 self:=fun _ _ _ _ _ st h=>wpAny_pyIter_striter_ascii st h
def Au (tl:TE):TI:=fun σ H R=>tl σ H fun v H1=>∃ x:Str,v=.str x/\x.cps.all (·<128)=true/\R (Its x) H1
theorem rM {tg l:Expr}{tl:TE}(hl:PE X l tl):PI X tg l (Au tl):=by
 intro pins s σ H R I h;refine thn (hl pins s σ H _ I h) fun v s1 ⟨y,H1,I1,r1,x,e1,ha,q⟩=>?_;subst e1;obtain⟨tk,rfl⟩:=r1;refine wpAny_pyIter_ascii ha ⟨s1.heap.objs.size,[s1.heap.objs.size],_,_,H1,rfl,I1.kept (t':=s1.toks) fun b o e=>yk _ e,eK x tk _,⟨_,yu _ rfl,rfl,rfl⟩,fun b hb=>?_,q⟩;rw[yD.mp hb];exact I1.fpOk (yo _) (I1.hok.fresh (yo _))
theorem bV {bs:List Bool}{us:List Value}(r:YN (bs.map V.bl) us)(i:Nat)(v:Value)(h:us.toArray[i]?=some v):v=.bool (bs.getD i false):=by
 have hl:=r.length;rw[yf] at hl;have h':us[i]?=some v:=by simpa using h
 have hi:i<bs.length:=by rw[hl];exact(yh.mp h').1
 have e1:(bs.map V.bl)[i]?=some (V.bl bs[i]):=by rw[yl,ym hi];rfl
 obtain⟨u,hu,ru⟩:=r.get e1;rw[h'] at hu;cases hu;rw[yM,ym hi];exact ru
theorem Ur (bs:List Bool):(List.range bs.length).map (fun i=>bs.getD i false)=bs:=by
 refine qe fun i=>?_;rw[yl];by_cases hi:i<bs.length
 ·rw[qO hi,ym hi];simp[yM,ym hi]
 ·rw[yt.mpr (by simpa using hi),yt.mpr (by omega)];rfl
theorem cA (hc:X.calm=true):Vk X (.builtin "all") (fun xs H Q=>∃ (a:Addr) (bs:List Bool),xs=[.ref a]/\SqL X.K H a (bs.map V.bl)/\Q (.bl (bs.all id)) H):=by
 rintro pins s σ H xs us Q I r ⟨a,bs,rfl,hl,q⟩;obtain⟨u,rfl,rx⟩:=UI r;cases rx;obtain⟨its,rv,p,_⟩:=I.list hl;have hz:its.toArray.size=bs.length:=by have:=rv.length;rw[yf] at this;simpa using this.symm
 refine call_all_walk (wpAny_pyIter_list p.isList ⟨s.heap.objs.size,_,_,_,_,_,fun i=>bs.getD i false,rfl,Walks.list (show X.A.in1.handled=none from I.ok.hd hc) s.heap.objs.size a (yQ (let ⟨_,e,_⟩:=p.isList;yj e)) its.toArray,⟨⟨_,yu _ rfl,rfl,rfl⟩,p.isList.at fun o e=>yk _ e⟩,?_,?_⟩)
 ·intro i v s' Q' E' hv hq;rw[bV rv i v hv];exact Y1 hq
 ·intro h' tk hk;refine⟨.bl (bs.all id),H,I.kept fun b o e=>hk b o (fun z=>absurd (yj e) (by rw[yD.mp z];exact Qv _)) (yk _ e),?_,q⟩;show Value.bool _=Value.bool _;rw[hz,show(List.range bs.length).all (fun i=>bs.getD i false)=((List.range bs.length).map fun i=>bs.getD i false).all id by rw[List.all_map];rfl,Ur]
theorem dr (hc:X.calm=true):Vk X (.builtin "any") (fun xs H Q=>∃ (a:Addr) (bs:List Bool),xs=[.ref a]/\SqL X.K H a (bs.map V.bl)/\Q (.bl (bs.any id)) H):=by
 rintro pins s σ H xs us Q I r ⟨a,bs,rfl,hl,q⟩;obtain⟨u,rfl,rx⟩:=UI r;cases rx;obtain⟨its,rv,p,_⟩:=I.list hl;have hz:its.toArray.size=bs.length:=by have:=rv.length;rw[yf] at this;simpa using this.symm
 refine call_any_walk (wpAny_pyIter_list p.isList ⟨s.heap.objs.size,_,_,_,_,_,fun i=>bs.getD i false,rfl,Walks.list (show X.A.in1.handled=none from I.ok.hd hc) s.heap.objs.size a (yQ (let ⟨_,e,_⟩:=p.isList;yj e)) its.toArray,⟨⟨_,yu _ rfl,rfl,rfl⟩,p.isList.at fun o e=>yk _ e⟩,?_,?_⟩)
 ·intro i v s' Q' E' hv hq;rw[bV rv i v hv];exact Y1 hq
 ·intro h' tk hk;refine⟨.bl (bs.any id),H,I.kept fun b o e=>hk b o (fun z=>absurd (yj e) (by rw[yD.mp z];exact Qv _)) (yk _ e),?_,q⟩;show Value.bool _=Value.bool _;rw[hz,show(List.range bs.length).any (fun i=>bs.getD i false)=((List.range bs.length).map fun i=>bs.getD i false).any id by rw[List.any_map];rfl,Ur]
end
end L2
namespace L3
open PySem PySem.Spec PySem.Calls PyProof.Rows L2
theorem IsL.of_bls {K:W.Frag}{H:Hp}:∀ {bs:List Bool} {xs:List V},IsL K H (bs.map D.bl) xs->xs=bs.map V.bl
 |[],_,h=>by simp only[QB,IsL] at h;subst h;rfl
 |n::ns,_,h=>by
  simp only[yy,IsL] at h;obtain⟨x,r,rfl,h1,h2⟩:=h;simp only[Is] at h1;rw[h1,IsL.of_bls h2];rfl
def uB (x:Str):List D:=x.cps.toList.map fun c=>D.str ⟨#[c]⟩
def leS (i j:Str):Bool:=!decide (j.cps.toList<i.cps.toList)
theorem rA:bootBuiltins "all" = some (.builtin "all"):=by decide +kernel
theorem rf:bootBuiltins "any" = some (.builtin "any"):=by decide +kernel
section
variable {X:Cx}{Γ:Ga}{tg a b c:Expr}{pos p:Pos}{x y z:Str}{bs:List Bool}
theorem pX (h:P3 X Γ a (.str x))(ha:x.cps.all (·<128)=true):I3 X Γ tg a (uB x):=PI.of (rM h) fun σ H R ⟨F,fh,sl,q⟩=>⟨F,fh,sl,fun v H' F' p i=>by
 refine⟨x,isS i,ha,q _ H' F' p fun n F2 H2 e1 e2=>⟨fun d w=>?_,fun w=>?_⟩⟩
 ·unfold uB at w;rw[yl] at w;obtain⟨c,hc,rfl⟩:=yX.mp w;rw[Array.getElem?_toList] at hc;have hi:n<x.cps.size:=(Array.getElem?_eq_some_iff.mp hc).1;refine⟨hi,?_⟩;rintro v' H3 ⟨rfl,c',hc',rfl⟩;rw[hc] at hc';cases hc';exact⟨F2,Pur.refl e2,xz F2⟩
 ·unfold uB at w;rw[yf,Array.length_toList] at w;exact w⟩
theorem xp (ha:P3 X Γ a (.str x))(hb:P3 X Γ b (.str y))(hc:P3 X Γ c (.str z))(hm:lastMarks [.LtE,.LtE] [b,c]=false:=by with_unfolding_all rfl):P3 X Γ (.Compare a [.LtE,.LtE] [b,c] pos) (.bl (leS x y&&leS y z)):=
 PE.of (WN Uy Uy ha hb hc hm) fun σ H Q ⟨F,fh,sl,k⟩=>⟨F,fh,sl,fun v1 H1 F1 p1 i1=>⟨F1,p1.fh,sl.mono p1.ff,fun v2 H2 F2 p2 i2=>⟨x,y,isS i1,isS i2,leS x y,rfl,by
  cases q:leS x y with
  |true=>
   rw[ye rfl];exact⟨F2,p2.fh,sl.mono (p1.ff.trans p2.ff),fun v3 H3 F3 p3 i3=>⟨y,z,isS i2,isS i3,k _ _ _ ((p1.trans p2).trans p3) (by rw[q];exact Wk F3)⟩⟩
  |false=>
   rw[yd yw];exact k _ _ _ (p1.trans p2) (by rw[q];exact Wk F2)⟩⟩⟩
theorem nQ (hk:X.calm=true)(hm:X.mg "all" = none)(hg:Gl X "all")(ha:P3 X Γ a (.lst (bs.map D.bl)))(he:starEach [a] X.env=(false,eval a X.env)::starEach [] X.env:=by rfl):P3 X Γ (.Call (.Name "all" p) [a] [] pos) (.bl (bs.all id)):=
 ZO (cA hk) hg hm rA (yb ha yn he) (fun vs H F Q fh i k=>by
  obtain⟨v,rfl,j0⟩:=K5 i;obtain⟨l,xs,rfl,s1,j1⟩:=JK j0;cases IsL.of_bls j1;exact⟨l,bs,rfl,fh.seq s1,k _ _ _ (Pur.refl fh) (Wk F)⟩) (by decide) (by decide) he
theorem sU (hk:X.calm=true)(hm:X.mg "any" = none)(hg:Gl X "any")(ha:P3 X Γ a (.lst (bs.map D.bl)))(he:starEach [a] X.env=(false,eval a X.env)::starEach [] X.env:=by rfl):P3 X Γ (.Call (.Name "any" p) [a] [] pos) (.bl (bs.any id)):=
 ZO (dr hk) hg hm rf (yb ha yn he) (fun vs H F Q fh i k=>by
  obtain⟨v,rfl,j0⟩:=K5 i;obtain⟨l,xs,rfl,s1,j1⟩:=JK j0;cases IsL.of_bls j1;exact⟨l,bs,rfl,fh.seq s1,k _ _ _ (Pur.refl fh) (Wk F)⟩) (by decide) (by decide) he
end
def JO (L:Bool):HO->Bool
 |.lst _=>!L
 |.ins _ _ _=>true
 |.ext _=>true
 |.dK _=>true
 |.dT _=>true
 |_=>false
def ao (L:Bool)(Ω:Om):Prop:=∀ q∈Ω,∀ F o,q.2 F o->JO L o=true
theorem za {L:Bool}:ao L []:=fun q hq=>absurd hq (by simp)
theorem Y4 {L:Bool}{a:Addr}{w:Ow}{Ω:Om}(h:∀ F o,w F o->JO L o=true)(t:ao L Ω):ao L ((a,w)::Ω):=fun q hq=>by
 rcases yP.mp hq with z|z
 ·subst z;exact h
 ·exact t q z
theorem KG {K:W.Frag}{ds:List D}:∀ F o,Q3 K ds F o->JO false o=true:=fun F o ⟨xs,e,_⟩=>by subst e;rfl
def bw (K:W.Frag)(w:Ow)(d:D):Prop:=∀ (F F':Hp) (a:Addr) (o:HO),yW F F'->F' a=some o->w F o->Is K F' d (.ref a)
theorem cH {K:W.Frag}{ds:List D}:bw K (Q3 K ds) (.lst ds):=fun F F' a o e ha ⟨xs,ho,il⟩=>by
 subst ho;exact Is.lstI (.inl ha) (il.mono e)
def XX (K:W.Frag)(Ω:Om)(Γ Γ':Ga):Prop:=∀ (i:Nat) (d:D),Γ'[i]?=some (some d)->Γ[i]?=some (some d)∨∃ a w,Γ[i]?=some (some (.raw (.ref a)))/\(a,w)∈Ω/\bw K w d
theorem jC {K:W.Frag}{Ω:Om}{Γ:Ga}:XX K Ω Γ Γ:=fun i d h=>.inl h
theorem zk {K:W.Frag}{Ω:Om}{Γ Γ':Ga}{i:Nat}{a:Addr}{w:Ow}{d:D}(h:XX K Ω Γ Γ')(hi:Γ[i]?=some (some (.raw (.ref a))))(hm:(a,w)∈Ω)(hl:bw K w d):XX K Ω Γ (Γ'.set i (some d)):=fun j e q=>by
 rw[Y3] at q;by_cases hj:i=j
 ·rw[ye hj] at q;split at q
  ·cases q;exact .inr ⟨a,w,hj▸hi,hm,hl⟩
  ·cases q
 ·rw[yd hj] at q;exact h j e q
def zV (Ω:Om)(F H:Hp):Hp:=fun b=>if b∈Ω.map (·.1) then H b else F b
def Ve (Ω:Om)(F:Hp):Hp:=fun b=>if b∈Ω.map (·.1) then none else F b
mutual
def Jr (L:Bool):D->Bool
 |.non=>true
 |.bl _=>true
 |.int _=>true
 |.str _=>true
 |.tup ds=>Zr L ds
 |.lst ds=>L&&Zr L ds
 |.dk _ ds=>Zr L ds
 |_=>false
def Zr (L:Bool):List D->Bool
 |[]=>true
 |d::ds=>Jr L d&&Zr L ds
end
section
variable {L:Bool}{K:W.Frag}{B:Bs}{Γ Γ':Ga}{Ω:Om}{F F1:Hp}{σ:L2.St}{H H1:Hp}
theorem Sat.notin (S:Sat K B Γ Ω F σ H){b:Addr}{u:HO}(e:F b=some u):b∉Ω.map (·.1):=fun z=>by
 obtain⟨q,hq,rfl⟩:=yx.mp z;rw[(S.own q hq).1] at e;cases e
theorem Sat.addSame (S:Sat K B Γ Ω F σ H):yW F (zV Ω F H):=fun b u e=>by
 unfold zV;rw[yd (S.notin e)];exact e
theorem Sat.addSub (S:Sat K B Γ Ω F σ H):yW (zV Ω F H) H:=fun b u e=>by
 unfold zV at e;split at e
 ·exact e
 ·exact S.fh _ _ e
theorem Sat.lent (S:Sat K B Γ Ω F σ H)(h:XX K Ω Γ Γ'):Sl K (zV Ω F H) Γ' σ:=fun i d q=>by
 rcases h i d q with z|⟨a,w,z,m,l⟩
 ·obtain⟨v,h1,h2⟩:=S.sl i d z;exact⟨v,h1,h2.mono S.addSame⟩
 ·obtain⟨v,h1,h2⟩:=S.sl i _ z;cases isR h2;obtain⟨fa,o,ha,ho⟩:=S.own (a,w) m;refine⟨_,h1,l F _ a o S.addSame ?_ (ho F (yW.refl _))⟩;unfold zV;rw[ye (yx.mpr ⟨(a,w),m,rfl⟩)];exact ha
theorem Sat.back (S:Sat K B Γ Ω F σ H)(p:Pur (zV Ω F H) H F1 H1):Pur F H (Ve Ω F1) H1:=by
 refine⟨fun b u e=>?_,fun b u e=>?_,p.hh,fun b q=>?_⟩
 ·unfold Ve;rw[yd (S.notin e)];exact p.ff _ _ (S.addSame _ _ e)
 ·unfold Ve at e;split at e
  ·cases e
  ·exact p.fh _ _ e
 ·unfold Ve at q;split at q
  ·exact absurd rfl q
  ·rename_i hn;rcases p.new b q with z|z
   ·unfold zV at z;rw[yd hn] at z;exact .inl z
   ·exact .inr z
mutual
theorem wI (hh:∀ b∈Ω.map (·.1),∀ o,F1 b=some o->JO L o=true):∀ {d:D} {v:V},Jr L d=true->Is K F1 d v->Is K (Ve Ω F1) d v
 |.non,v,_,h=>by simp only[Is] at h ⊢;exact h
 |.bl _,v,_,h=>by simp only[Is] at h ⊢;exact h
 |.int _,v,_,h=>by simp only[Is] at h ⊢;exact h
 |.str _,v,_,h=>by simp only[Is] at h ⊢;exact h
 |.tup ds,v,hs,h=>by
  rw[Jr] at hs;obtain⟨a,xs,rfl,h1,h2⟩:=isT h;refine Is.tupI ?_ (Km hh hs h2);have keep:∀ o,F1 a=some o->JO L o=false->Ve Ω F1 a=some o:=fun o e n=>by
   unfold Ve;rw[yd fun z=>by rw[hh a z o e] at n;cases n];exact e
  rcases h1 with (h1|⟨o,h1⟩)|h1
  ·exact .inl (.inl (keep _ h1 rfl))
  ·exact .inl (.inr ⟨o,keep _ h1 rfl⟩)
  ·exact .inr h1
 |.raw _,_,h,_=>by simp[Jr] at h
 |.lst ds,v,hs,h=>by
  rw[Jr,Yr] at hs;obtain⟨a,xs,rfl,h1,h2⟩:=aA h;refine Is.lstI ?_ (Km hh hs.2 h2);have keep:∀ o,F1 a=some o->JO L o=false->Ve Ω F1 a=some o:=fun o e n=>by
   unfold Ve;rw[yd fun z=>by rw[hh a z o e] at n;cases n];exact e
  rcases h1 with h1|⟨o,h1⟩
  ·exact .inl (keep _ h1 (by rw[hs.1];rfl))
  ·exact .inr ⟨o,keep _ h1 rfl⟩
 |.dk ks ds,v,hs,h=>by
  rw[Jr] at hs;simp only[Is] at h ⊢;obtain⟨a,xs,o,e1,e2,e3,e4⟩:=h;refine⟨a,xs,o,e1,?_,e3,Km hh hs e4⟩;unfold Ve;rw[yd fun z=>by have:=hh a z _ e2;cases this];exact e2
 |.dt _ _,_,h,_=>by simp[Jr] at h
 |.obj _ _ _,_,h,_=>by simp[Jr] at h
 |.exc _,_,h,_=>by simp[Jr] at h
 |.scr _,_,h,_=>by simp[Jr] at h
theorem Km (hh:∀ b∈Ω.map (·.1),∀ o,F1 b=some o->JO L o=true):∀ {ds:List D} {xs:List V},Zr L ds=true->IsL K F1 ds xs->IsL K (Ve Ω F1) ds xs
 |[],xs,_,h=>by simp only[IsL] at h ⊢;exact h
 |d::ds,xs,hs,h=>by
  rw[Zr,Yr] at hs;simp only[IsL] at h ⊢;obtain⟨x,r,e,h1,h2⟩:=h;exact⟨x,r,e,wI hh hs.1 h1,Km hh hs.2 h2⟩
end
theorem Sat.hard (S:Sat K B Γ Ω F σ H)(hd:ao L Ω)(p:Pur (zV Ω F H) H F1 H1):∀ b∈Ω.map (·.1),∀ o,F1 b=some o->JO L o=true:=fun b hb o e=>by
 obtain⟨q,hq,rfl⟩:=yx.mp hb;obtain⟨_,o',h1,h2⟩:=S.own q hq;have e1:=p.fh _ _ e;rw[p.hh _ _ h1] at e1;cases e1;exact hd q hq F _ (h2 F (yW.refl _))
end
section
variable {X:Cx}{B:Bs}{Γ Γ':Ga}{Ω:Om}{E:E3}{rest:List Stmt}{e:Expr}{d:D}{ds:List D}{k:Bool}{R:D->Om->Prop}{RT:Bool->Om->Prop}{L:Bool}
theorem Wi (h:P3 X Γ' e d)(hl:XX X.K Ω Γ Γ')(hd:ao L Ω)(hs:Jr L d=true)(r:R d Ω):V3 X B e Γ Ω R:=fun F σ H S=>
 h.we ⟨zV Ω F H,S.addSub,S.lent hl,fun v H' F' p i=>⟨d,Ω,Ve Ω F',S.pur (S.back p),(S.back p).ff,wI (S.hard hd p) hs i,r⟩⟩
theorem wj (h:PT3 X Γ' e k)(hl:XX X.K Ω Γ Γ')(r:RT k Ω):VT3 X B e Γ Ω RT:=fun F σ H S=>
 h.wt ⟨zV Ω F H,S.addSub,S.lent hl,fun H' F' p=>⟨Ω,Ve Ω F',S.pur (S.back p),(S.back p).ff,r⟩⟩
end
end L3
namespace L2
open PySem PySem.Spec PySem.Calls PyProof.Rows
def YD (K:W.Frag)(C:Addr)(m q:Str)(st:Stmt)(ps:List Str):Prop:=∃ f fd,Fun K m q st f fd/\Meth K C m f/\zo K fd ps []
def OkM (P:Program)(w:World)(K:W.Frag)(mg:Str->Option Value)(base:Heap)(CX:CXT)(k:Nat)(C:Addr)(m:Str)(ps:List Str)(sp:Sp):Prop:=∃ f fd,FnOk P w K mg base CX k f fd ps sp/\Meth K C m f/\zo K fd ps []
def zG (K:W.Frag)(mg:Str->Option Value)(x:Str)(C:Addr)(q:Str)(st:Stmt)(ps:List Str):Prop:=∃ f fd,Fun K "__init__" q st f fd/\Mk K C f/\mg x=some (.ref C)/\zo K fd ps []
def OkI (P:Program)(w:World)(K:W.Frag)(mg:Str->Option Value)(base:Heap)(CX:CXT)(k:Nat)(x:Str)(C:Addr)(ps:List Str)(sp:Sp):Prop:=∃ f fd,FnOk P w K mg base CX k f fd ps sp/\Mk K C f/\mg x=some (.ref C)/\zo K fd ps []
theorem QI {K:W.Frag}{C:Addr}{m q:Str}{st:Stmt}(ps:List Str){f:Addr}{oc:Value}{od an:Option Addr}{osl:Array (Option Value)}{kV doc pm cdv ct:Value}
  (a:W.findIn K (.ref C) m=some (some (.ref f))) (i:W.isFn K (.ref f)=true) (l:K.lookup f=some ⟨oc,od,.func (W.fnOf m q (jg st) (YT st) (yi st) .none kV doc pm an cdv ct),osl⟩)
  (c:W.codeIn K cdv q=true) (k:W.keepIn K (.ref f)=true)
  (hb:∀ (kV doc pm:Value) (an:Option Addr) (cdv ct:Value) (us:List Value),us.length=ps.length->bindArgs (W.fnOf m q (jg st) (YT st) (yi st) .none kV doc pm an cdv ct) ⟨us,[]⟩=pure (ps.zip us)):YD K C m q st ps:=
 have F:=Wp (st:=st) l c k
 ⟨f,_,F,⟨a,i,k⟩,F.binds hb⟩
theorem wU {K:W.Frag}{h:Heap}{mg:Str->Option Value}(X:K.In h)(G:h.Ns mainGlobals mg){x:Str}{C:Addr}{q:Str}{st:Stmt}(ps:List Str){f:Addr}{oc:Value}{od an:Option Addr}{osl:Array (Option Value)}{kV doc pm cdv ct:Value}
  (g:W.nsIn K mainGlobals x=some (some (.ref C))) (a:W.findIn K (.ref C) "__init__" = some (some (.ref f))) (mk:W.makesIn K C=true) (i:W.isFn K (.ref f)=true) (kc:W.keepIn K (.ref C)=true)
  (l:K.lookup f=some ⟨oc,od,.func (W.fnOf "__init__" q (jg st) (YT st) (yi st) .none kV doc pm an cdv ct),osl⟩)
  (c:W.codeIn K cdv q=true) (k:W.keepIn K (.ref f)=true)
  (hb:∀ (kV doc pm:Value) (an:Option Addr) (cdv ct:Value) (us:List Value),us.length=ps.length->bindArgs (W.fnOf "__init__" q (jg st) (YT st) (yi st) .none kV doc pm an cdv ct) ⟨us,[]⟩=pure (ps.zip us)):zG K mg x C q st ps:=
 have F:=Wp (st:=st) l c k
 ⟨f,_,F,⟨mk,a,i,kc⟩,W.mg_of X G g,F.binds hb⟩
section
variable {P:Program}{w:World}{K:W.Frag}{mg:Str->Option Value}{base:Heap}{C:Addr}{m q x:Str}{st:Stmt}{N ps:List Str}{k:Nat}{sp:Sp}
theorem YD.ok (d:YD K C m q st ps)(S:FnScope N ps (yi st))(len:∀ vs H Q E,sp vs H Q E->vs.length=ps.length)
  (hbody:∀ (f:Addr) (cdv:Value) (A:Around) (outer:List Env) (s:Shared) (H:Hp) (vs:List V) (Q:VK) (E:XK),Room k (A.deeper (envOfC q (yi st) s.heap.objs.size f cdv))->sp vs H Q E->
   ∃ t,PSs (uv CX0 P w K mg base N q (yi st) f cdv A outer s H E).nox (YT st) t/\t {nx:=fun _ H'=>Q .non H',rt:=Q} (start N vs) H):OkM P w K mg base CX0 (k+1) C m ps sp:=by
 obtain⟨f,fd,F,hm,b⟩:=d;exact⟨f,fd,F.ok S len fun cdv A outer s H vs Q E hr h=>hbody f cdv A outer s H vs Q E hr h,hm,b⟩
theorem zG.ok (d:zG K mg x C q st ps)(S:FnScope N ps (yi st))(len:∀ vs H Q E,sp vs H Q E->vs.length=ps.length)
  (hbody:∀ (f:Addr) (cdv:Value) (A:Around) (outer:List Env) (s:Shared) (H:Hp) (vs:List V) (Q:VK) (E:XK),Room k (A.deeper (envOfC q (yi st) s.heap.objs.size f cdv))->sp vs H Q E->
   ∃ t,PSs (uv CX0 P w K mg base N q (yi st) f cdv A outer s H E).nox (YT st) t/\t {nx:=fun _ H'=>Q .non H',rt:=Q} (start N vs) H):OkI P w K mg base CX0 (k+1) x C ps sp:=by
 obtain⟨f,fd,F,hm,g,b⟩:=d;exact⟨f,fd,F.ok S len fun cdv A outer s H vs Q E hr h=>hbody f cdv A outer s H vs Q E hr h,hm,g,b⟩
end
theorem W1 {f:Str}{v:V}:∀ {fs:List (Str×V)},(∀ p∈fs,p.1≠f)->Z8 f v fs=fs++[(f,v)]
 |[],_=>rfl
 | (g,x)::r,h=>by
  rw[Z8,yd (h (g,x) (by simp)),W1 fun p hp=>h p (yc _ hp)];rfl
end L2
namespace L3
open PySem PySem.Spec PySem.Calls PyProof.Rows L2
def jG (K:W.Frag)(C:Addr)(fs:List Str)(ds:List D):Ow:=fun F o=>∃ dx xs,o=.ins C dx (fs.zip xs)/\fs.length=xs.length/\IsL K F ds xs
theorem zd {K:W.Frag}{C:Addr}{fs:List Str}{ds:List D}{L:Bool}:∀ F o,jG K C fs ds F o->JO L o=true:=fun F o ⟨dx,xs,e,_⟩=>by subst e;rfl
theorem J9 {K:W.Frag}{C:Addr}{fs:List Str}{ds:List D}:bw K (jG K C fs ds) (.obj C fs ds):=fun F F' a o e ha ⟨dx,xs,ho,hl,il⟩=>by
 subst ho;simp only[Is];exact⟨a,dx,xs,rfl,ha,hl,il.mono e⟩
theorem isO {K:W.Frag}{F:Hp}{C:Addr}{fs:List Str}{ds:List D}{v:V}(h:Is K F (.obj C fs ds) v):∃ a dx xs,v=.ref a/\F a=some (.ins C dx (fs.zip xs))/\fs.length=xs.length/\IsL K F ds xs:=by simpa only[Is] using h
theorem ww {K:W.Frag}{F:Hp}{f:Str}{d:D}:∀ {fs:List Str} {ds:List D} {xs:List V},IsL K F ds xs->(fs.zip ds).lookup f=some d->∃ x,(fs.zip xs).lookup f=some x/\Is K F d x
 |[],_,_,_,h=>by simp at h
 |g::fs,[],_,_,h=>by simp at h
 |g::fs,e::ds,xs,il,h=>by
  simp only[IsL] at il;obtain⟨x,r,rfl,i1,i2⟩:=il;rw[yU,Yd] at h ⊢;cases q:f==g with
  |true=>rw[q] at h;cases h;exact⟨x,rfl,i1⟩
  |false=>rw[q] at h;exact ww i2 h
theorem Zh {f:Str}:∀ {fs:List Str} {xs:List V},f∉fs->(fs.zip xs).lookup f=none
 |[],_,_=>by simp
 |g::fs,[],_=>by simp
 |g::fs,x::xs,h=>by
  rw[yU,Yd];have hg:f≠g:=fun z=>h (by simp[z]);rw[show(f==g)=false from beq_eq_false_iff_ne.mpr hg];exact Zh fun z=>h (yc _ z)
theorem xC {f:Str}{x:V}:∀ {fs:List Str} {xs:List V},fs.length=xs.length->fs.zip xs++[(f,x)]=(fs++[f]).zip (xs++[x])
 |[],[],_=>rfl
 |g::fs,y::xs,h=>by
  rw[yU,QO,QO,QO,yU,xC (by simpa using h)]
section
variable {X:Cx}{B:Bs}{Γ:Ga}{Ω:Om}{E:E3}{rest:List Stmt}{e o:Expr}{es:List Expr}{d:D}{ds:List D}{C:Addr}{fs:List Str}{f:Str}{pos pos' p apos:Pos}{R:D->Om->Prop}
theorem jd (he:P3 X Γ e (.obj C fs ds))(c:Cls X.K C)(n:qM X.K C f)(l:(fs.zip ds).lookup f=some d)(hb:attributeBase e f X.env (eval e X.env)=eval e X.env:=by rfl):P3 X Γ (.Attribute e f pos) d:=
 PE.of (XJ he hb) fun σ H Q ⟨F,fh,sl,k⟩=>⟨F,fh,sl,fun v H' F' p i=>by
  obtain⟨a,dx,xs,rfl,ha,hl,il⟩:=isO i;obtain⟨x,h1,h2⟩:=ww il l;exact⟨a,C,dx,_,x,rfl,p.fh _ _ ha,c,n,h1,k _ _ _ p h2⟩⟩
theorem zg {a:Addr}(he:P3 X Γ e (.raw (.ref a)))(hm:(a,jG X.K C fs ds)∈Ω)(c:Cls X.K C)(n:qM X.K C f)(l:(fs.zip ds).lookup f=some d)(r:R d Ω)(hb:attributeBase e f X.env (eval e X.env)=eval e X.env:=by rfl):V3 X B (.Attribute e f pos) Γ Ω R:=fun F σ H S pins s I=>
 XJ he hb pins s σ H _ I ⟨F,S.fh,S.sl,fun v H' F' pu i=>by
  cases isR i;have S1:=S.pur pu;obtain⟨fa,o',ha,ho⟩:=S1.own _ hm;obtain⟨dx,xs,rfl,hl,il⟩:=ho F' (yW.refl _);obtain⟨x,h1,h2⟩:=ww il l;exact⟨a,C,dx,_,x,rfl,ha,c,n,h1,d,Ω,F',S1,pu.ff,h2,r⟩⟩
theorem jS {a:Addr}(ho:P3 X Γ o (.raw (.ref a)))(c:Cls X.K C)(n:qM X.K C f)
  (h:V3 X B e Γ Ω fun d Ω1=>∃ fs ds Ω2,Ω1.Perm ((a,jG X.K C fs ds)::Ω2)/\f∉fs/\fs.length<1000/\W3 X B rest Γ ((a,jG X.K C (fs++[f]) (ds++[d]))::Ω2) E)
  (hs:swapsWith e (some (.Attribute o f pos')) pos.line X.env=pure false:=by rfl):W3 X B (.Assign [.Attribute o f pos'] e pos::rest) Γ Ω E:=fun F σ H S pins s I=>
 Y7 (n9 ho JM hs) qL pins s σ H _ I ((h F σ H S).mono fun v H1 ⟨d,Ω1,F1,S1,f1,i1,fs,ds,Ω2,pm,hf,hz,h1⟩=>⟨F1,S1.fh,S1.sl,fun y H2 F2 p2 i2=>by
  cases isR i2;have S2:=(S1.pur p2).perm pm.symm;obtain⟨fa,o',ha,ho'⟩:=S2.own (a,jG X.K C fs ds) (by simp);obtain⟨dx,xs,rfl,hl,il⟩:=ho' F2 (yW.refl _);refine⟨a,C,dx,_,rfl,ha,c,n,by rw[YG,←hl];omega,?_⟩;rw[W1 (f:=f) (v:=v) (fs:=fs.zip xs) (fun q hq z=>hf (by rw[←z];exact(jU hq).1)),xC hl];exact Y5 (f1.trans p2.ff) (h1 F2 σ _ (S2.turn fun F3 e3=>⟨dx,xs++[v],rfl,by rw[Yh,Yh,hl];rfl,(il.mono e3).append (IsL.cons (i1.mono (p2.ff.trans e3)) IsL.nil)⟩))⟩)
end
def spF (K:W.Frag)(n:Nat)(C:List D->List D->Prop):Sp:=fun vs H Q _=>∃ ds gs F,C ds gs/\ds.length=n/\yW F H/\IsL K F ds vs/\∀ p xs H' F',Pur F H F' H'->H p=none->F' p=none->H' p=some (.lst xs)->IsL K F' gs xs->Q (.ref p) H'
def spI (K:W.Frag)(n:Nat)(Cc:Addr)(C:List D->List Str×List D->Prop):Sp:=fun vs H Q _=>∃ (a:Addr) (us:List V) (ds:List D) (r:List Str×List D) (F:Hp) (dx:Addr),vs=.ref a::us/\ds.length+1=n/\yW F H/\F a=none/\H a=some (.ins Cc dx [])/\IsL K F ds us/\C ds r/\
 ∀ (H' F':Hp) (dx':Addr) (xs:List V),yW F F'->yW F' H'->(∀ b o,b≠a->H b=some o->H' b=some o)->(∀ b,F' b≠none->F b≠none∨H b=none)->F' a=none->H' a=some (.ins Cc dx' (r.1.zip xs))->r.1.length=xs.length->IsL K F' r.2 xs->Q .non H'
theorem spF.len {K:W.Frag}{n:Nat}{C:List D->List D->Prop}{vs:List V}{H:Hp}{Q:VK}{E:XK}(h:spF K n C vs H Q E):vs.length=n:=by
 obtain⟨ds,d,F,_,l,_,i,_⟩:=h;rw[i.len,l]
theorem spI.len {K:W.Frag}{n:Nat}{Cc:Addr}{C:List D->List Str×List D->Prop}{vs:List V}{H:Hp}{Q:VK}{E:XK}(h:spI K n Cc C vs H Q E):vs.length=n:=by
 obtain⟨a,us,ds,r,F,dx,rfl,l,_,_,_,i,_⟩:=h;rw[yI,i.len,l]
section
variable {X:Cx}{sts:List Stmt}{N:List Str}{n:Nat}{vs:List V}{H:Hp}{Q:VK}{E:XK}
theorem XB {C:List D->D->Prop}(h:spP X.K n C vs H Q E)
  (body:∀ (ds:List D) (r:D),C ds r->∀ B:Bs,B.M=[]->W3 X B sts (QW N ds) [] ⟨fun _ _=>r=.non,fun r' _=>r'=r,fun _ _=>False,fun _ _=>False⟩):∃ t,PSs X sts t/\t {nx:=fun _ H'=>Q .non H',rt:=Q} (L2.start N vs) H:=by
 refine⟨_,qL,?_⟩;obtain⟨ds,r,F,hC,hl,fh,il,q⟩:=h;refine qS (D:=E3.to X.K ⟨[],F,H⟩ F ⟨fun _ _=>r=.non,fun r' _=>r'=r,fun _ _=>False,fun _ _=>False⟩) (D':={nx:=fun _ H'=>Q .non H',rt:=Q}) ?_ ?_ ?_ ?_ (body ds r hC ⟨[],F,H⟩ rfl F (L2.start N vs) H (Sat.entry fh il))
 ·rintro σ' H' ⟨Γ',Ω',F',S',f',e⟩;subst e;exact q _ _ _ (S'.toPur rfl) (cm F')
 ·rintro v H' ⟨d',Ω',F',⟨σ',S'⟩,f',i',e⟩;subst e;exact q _ _ _ (S'.toPur rfl) i'
 ·rintro σ' H' ⟨_,_,_,_,_,z⟩;exact z.elim
 ·rintro σ' H' ⟨_,_,_,_,_,z⟩;exact z.elim
theorem WG {C:List D->List D->Prop}(h:spF X.K n C vs H Q E)
  (body:∀ (ds gs:List D),C ds gs->∀ B:Bs,B.M=[]->W3 X B sts (QW N ds) [] ⟨fun _ _=>False,fun r Ω=>∃ p,r=.raw (.ref p)/\Ω=[(p,Q3 X.K gs)],fun _ _=>False,fun _ _=>False⟩):∃ t,PSs X sts t/\t {nx:=fun _ H'=>Q .non H',rt:=Q} (L2.start N vs) H:=by
 refine⟨_,qL,?_⟩;obtain⟨ds,gs,F,hC,hl,fh,il,q⟩:=h;refine qS (D:=E3.to X.K ⟨[],F,H⟩ F ⟨fun _ _=>False,fun r Ω=>∃ p,r=.raw (.ref p)/\Ω=[(p,Q3 X.K gs)],fun _ _=>False,fun _ _=>False⟩) (D':={nx:=fun _ H'=>Q .non H',rt:=Q}) ?_ ?_ ?_ ?_ (body ds gs hC ⟨[],F,H⟩ rfl F (L2.start N vs) H (Sat.entry fh il))
 ·rintro σ' H' ⟨_,_,_,_,_,z⟩;exact z.elim
 ·rintro v H' ⟨d',Ω',F',⟨σ',S'⟩,f',i',p,rfl,rfl⟩;cases isR i';obtain⟨fa,o,ha,ho⟩:=S'.own (p,Q3 X.K gs) (by simp);obtain⟨xs,rfl,il'⟩:=ho F' (yW.refl _);refine q p xs H' F' (S'.toPur rfl) ?_ fa ha il';rcases S'.od (p,Q3 X.K gs) (by simp) with z|z
  ·cases z
  ·exact z
 ·rintro σ' H' ⟨_,_,_,_,_,z⟩;exact z.elim
 ·rintro σ' H' ⟨_,_,_,_,_,z⟩;exact z.elim
theorem aw {Cc:Addr}{C:List D->List Str×List D->Prop}(h:spI X.K n Cc C vs H Q E)
  (body:∀ (a:Addr) (ds:List D) (r:List Str×List D),C ds r->∀ B:Bs,B.M=[a]->W3 X B sts (QW N (.raw (.ref a)::ds)) [(a,jG X.K Cc [] [])] ⟨fun _ Ω=>Ω=[(a,jG X.K Cc r.1 r.2)],fun _ _=>False,fun _ _=>False,fun _ _=>False⟩):∃ t,PSs X sts t/\t {nx:=fun _ H'=>Q .non H',rt:=Q} (L2.start N vs) H:=by
 refine⟨_,qL,?_⟩;obtain⟨a,us,ds,r,F,dx,rfl,hl,fh,fa,ha,il,hC,q⟩:=h;have il':IsL X.K F (.raw (.ref a)::ds) (.ref a::us):=IsL.cons (Vz F) il;have S0:Sat X.K ⟨[a],F,H⟩ (QW N (.raw (.ref a)::ds)) [(a,jG X.K Cc [] [])] F (L2.start N (.ref a::us)) H:=by
  refine⟨yW.refl _,fh,fun _ q=>.inl q,fun _ _ _ e=>e,by simp,fun p hp=>?_,fun p hp=>?_,Sl.start il'⟩
  ·rw[yD.mp hp];exact .inl (by simp)
  ·rw[yD.mp hp];exact⟨fa,_,ha,fun _ _=>⟨dx,[],rfl,rfl,IsL.nil⟩⟩
 refine qS (D:=E3.to X.K ⟨[a],F,H⟩ F ⟨fun _ Ω=>Ω=[(a,jG X.K Cc r.1 r.2)],fun _ _=>False,fun _ _=>False,fun _ _=>False⟩) (D':={nx:=fun _ H'=>Q .non H',rt:=Q}) ?_ ?_ ?_ ?_ (body a ds r hC ⟨[a],F,H⟩ rfl F _ H S0)
 ·rintro σ' H' ⟨Γ',Ω',F',S',f',rfl⟩;obtain⟨fa',o,ha',ho⟩:=S'.own (a,jG X.K Cc r.1 r.2) (by simp);obtain⟨dx',xs,rfl,hl',il2⟩:=ho F' (yW.refl _);refine q H' F' dx' xs S'.f0 S'.fh (fun b o hb e=>S'.kp b o (by simpa using hb) e) (fun b hb=>?_) fa' ha' hl' il2;rcases S'.fr b hb with z|z|z
  ·exact .inl z
  ·exact .inr z
  ·have e:b=a:=by simpa using z
   subst e;exact absurd fa' hb
 ·rintro v H' ⟨_,_,_,_,_,_,z⟩;exact z.elim
 ·rintro σ' H' ⟨_,_,_,_,_,z⟩;exact z.elim
 ·rintro σ' H' ⟨_,_,_,_,_,z⟩;exact z.elim
end
section
variable {P:Program}{w:World}{K:W.Frag}{mg:Str->Option Value}{base:Heap}{x m q:Str}{st:Stmt}{N ps:List Str}{k n:Nat}{Cc:Addr}
theorem zM {C:List D->D->Prop}(d:YD K Cc m q st ps)(S:FnScope N ps (yi st))(hn:ps.length=n)
  (body:∀ (f:Addr) (cdv:Value) (A:Around) (outer:List Env) (s:Shared) (H:Hp) (E:XK),Room k (A.deeper (envOfC q (yi st) s.heap.objs.size f cdv))->∀ (ds:List D) (r:D),C ds r->∀ B:Bs,B.M=[]->
   W3 (cx0 P w K mg base N q st f cdv A outer s H E) B (YT st) (QW N ds) [] ⟨fun _ _=>r=.non,fun r' _=>r'=r,fun _ _=>False,fun _ _=>False⟩):OkM P w K mg base CX0 (k+1) Cc m ps (spP K n C):=
 d.ok S (fun vs H Q E h=>h.len.trans hn.symm) fun f cdv A outer s H vs Q E hr h=>XB (X:=cx0 P w K mg base N q st f cdv A outer s H E) h (body f cdv A outer s H E hr)
theorem KZ {C:List D->List D->Prop}(d:YD K Cc m q st ps)(S:FnScope N ps (yi st))(hn:ps.length=n)
  (body:∀ (f:Addr) (cdv:Value) (A:Around) (outer:List Env) (s:Shared) (H:Hp) (E:XK),Room k (A.deeper (envOfC q (yi st) s.heap.objs.size f cdv))->∀ (ds gs:List D),C ds gs->∀ B:Bs,B.M=[]->
   W3 (cx0 P w K mg base N q st f cdv A outer s H E) B (YT st) (QW N ds) [] ⟨fun _ _=>False,fun r Ω=>∃ p,r=.raw (.ref p)/\Ω=[(p,Q3 K gs)],fun _ _=>False,fun _ _=>False⟩):OkM P w K mg base CX0 (k+1) Cc m ps (spF K n C):=
 d.ok S (fun vs H Q E h=>(spF.len h).trans hn.symm) fun f cdv A outer s H vs Q E hr h=>WG (X:=cx0 P w K mg base N q st f cdv A outer s H E) h (body f cdv A outer s H E hr)
theorem bv {C:List D->List Str×List D->Prop}(d:zG K mg x Cc q st ps)(S:FnScope N ps (yi st))(hn:ps.length=n)
  (body:∀ (f:Addr) (cdv:Value) (A:Around) (outer:List Env) (s:Shared) (H:Hp) (E:XK),Room k (A.deeper (envOfC q (yi st) s.heap.objs.size f cdv))->∀ (a:Addr) (ds:List D) (r:List Str×List D),C ds r->∀ B:Bs,B.M=[a]->
   W3 (cx0 P w K mg base N q st f cdv A outer s H E) B (YT st) (QW N (.raw (.ref a)::ds)) [(a,jG K Cc [] [])] ⟨fun _ Ω=>Ω=[(a,jG K Cc r.1 r.2)],fun _ _=>False,fun _ _=>False,fun _ _=>False⟩):OkI P w K mg base CX0 (k+1) x Cc ps (spI K n Cc C):=
 d.ok S (fun vs H Q E h=>(spI.len h).trans hn.symm) fun f cdv A outer s H vs Q E hr h=>aw (X:=cx0 P w K mg base N q st f cdv A outer s H E) h (body f cdv A outer s H E hr)
end
section
variable {X:Cx}{Γ:Ga}{d:D}{ds gs:List D}{n k:Nat}{Cc:Addr}{fs:List Str}{x m:Str}{ps:List Str}{e o:Expr}{es:List Expr}{p pos apos:Pos}
theorem KY {F H F' H':Hp}{p:Addr}{u:HO}(pu:Pur F H F' H')(hp:H p=none)(fp:F' p=none)(e:H' p=some u):Pur F H (upd F' p u) H'/\yW F' (upd F' p u):=by
 have w:yW F' (upd F' p u):=fun b y q=>by rw[yA (yZ q fp)];exact q
 refine⟨⟨pu.ff.trans w,fun b y q=>?_,pu.hh,fun b q=>?_⟩,w⟩
 ·by_cases hb:b=p
  ·subst hb;rw[yN] at q;cases q;exact e
  ·rw[yA hb] at q;exact pu.fh _ _ q
 ·by_cases hb:b=p
  ·subst hb;exact .inr hp
  ·rw[yA hb] at q;exact pu.new b q
theorem ZB {C:List D->D->Prop}{pl:Sem Bool}(ok:OkM X.prog X.w X.K X.mg X.base CX0 k Cc m ps (spP X.K n C))(c:Cls X.K Cc)(hr:Room k X.A)(ho:P3 X Γ o (.obj Cc fs gs))(hm:m∉fs)(ha:PL3 X Γ (e::es) ds)(hC:C (.obj Cc fs gs::ds) d)(hn:ds.length+1=n:=by rfl)
  (hst:starEach (e::es) X.env=(false,eval e X.env)::starEach es X.env:=by rfl) (hpl:(backTo pos (starEach es X.env)).any (·.1)=false:=by rfl)
  (ht:eval (.Call (.Attribute o m apos) (e::es) [] pos) X.env=(do
   let ov ←eval o X.env
   standAt apos.atName
   let (f,first) ←holding [ov] (getMethod ov m pl)
   callWith pos f first (backTo pos (starEach (e::es) X.env)) (backToKw pos (keywordEach [] X.env))):=by rfl):P3 X Γ (.Call (.Attribute o m apos) (e::es) [] pos) d:=by
 obtain⟨f,fd,F,hM,hb⟩:=ok;exact PE.of (Wc (pl:=pl) ho c hM F hr hb .nil kJ ha hst hpl ht) fun σ H Q ⟨F0,fh,sl,q⟩=>⟨F0,fh,sl,fun v H1 F1 p1 i1=>by
  obtain⟨a,dx,xs,rfl,h1,hl,il⟩:=isO i1;refine⟨a,dx,_,rfl,p1.fh _ _ h1,Zh hm,F1,p1.fh,sl.mono p1.ff,fun vs H2 F2 p2 i2=>?_⟩;dsimp only;rw[y9];exact⟨_,d,F2,hC,hn,p2.fh,IsL.cons (i1.mono p2.ff) i2,fun v' H3 F3 p3 i3=>q v' H3 F3 ((p1.trans p2).trans p3) i3⟩⟩
theorem vL {C:List D->D->Prop}{pl:Sem Bool}(ok:OkM X.prog X.w X.K X.mg X.base CX0 k Cc m ps (spP X.K 1 C))(c:Cls X.K Cc)(hr:Room k X.A)(ho:P3 X Γ o (.obj Cc fs gs))(hm:m∉fs)(hC:C [.obj Cc fs gs] d)
  (ht:eval (.Call (.Attribute o m apos) [] [] pos) X.env=(do
   let ov ←eval o X.env
   standAt apos.atName
   let (f,first) ←holding [ov] (getMethod ov m pl)
   callWith pos f first (backTo pos (starEach [] X.env)) (backToKw pos (keywordEach [] X.env))):=by rfl):P3 X Γ (.Call (.Attribute o m apos) [] [] pos) d:=by
 obtain⟨f,fd,F,hM,hb⟩:=ok;exact PE.of (xD (pl:=pl) ho c hM F hr hb .nil kJ ht) fun σ H Q ⟨F0,fh,sl,q⟩=>⟨F0,fh,sl,fun v H1 F1 p1 i1=>by
  obtain⟨a,dx,xs,rfl,h1,hl,il⟩:=isO i1;refine⟨a,dx,_,rfl,p1.fh _ _ h1,Zh hm,?_⟩;exact⟨_,d,F1,hC,rfl,p1.fh,IsL.cons i1 IsL.nil,fun v' H3 F3 p3 i3=>q v' H3 F3 (p1.trans p3) i3⟩⟩
theorem Jh {C:List D->List D->Prop}{pl:Sem Bool}(ok:OkM X.prog X.w X.K X.mg X.base CX0 k Cc m ps (spF X.K 1 C))(c:Cls X.K Cc)(hr:Room k X.A)(ho:P3 X Γ o (.obj Cc fs gs))(hm:m∉fs)(hC:C [.obj Cc fs gs] ds)
  (ht:eval (.Call (.Attribute o m apos) [] [] pos) X.env=(do
   let ov ←eval o X.env
   standAt apos.atName
   let (f,first) ←holding [ov] (getMethod ov m pl)
   callWith pos f first (backTo pos (starEach [] X.env)) (backToKw pos (keywordEach [] X.env))):=by rfl):PF3 X Γ (.Call (.Attribute o m apos) [] [] pos) ds:=by
 obtain⟨f,fd,F,hM,hb⟩:=ok;exact PE.of (xD (pl:=pl) ho c hM F hr hb .nil kJ ht) fun σ H Q ⟨F0,fh,sl,q⟩=>⟨F0,fh,sl,fun v H1 F1 p1 i1=>by
  obtain⟨a,dx,xs,rfl,h1,hl,il⟩:=isO i1;refine⟨a,dx,_,rfl,p1.fh _ _ h1,Zh hm,?_⟩;exact⟨_,ds,F1,hC,rfl,p1.fh,IsL.cons i1 IsL.nil,fun b xs H2 F2 p2 hb fb e2 il2=>q b xs H2 F2 (p1.trans p2) (p1.hh.free hb) fb e2 il2⟩⟩
theorem ue {C:List D->List Str×List D->Prop}{r:List Str×List D}(ok:OkI X.prog X.w X.K X.mg X.base CX0 k x Cc ps (spI X.K n Cc C))(hr:Room (k+1) X.A)(hg:Gl X x)(ha:PL3 X Γ (e::es) ds)(hC:C ds r)(hn:ds.length+1=n:=by rfl)(hdb:(x==("__debug__" : Str))=false:=by decide)
  (he:starEach (e::es) X.env=(false,eval e X.env)::starEach es X.env:=by rfl) (hpl:(backTo pos (starEach es X.env)).any (·.1)=false:=by rfl):P3 X Γ (.Call (.Name x p) (e::es) [] pos) (.obj Cc r.1 r.2):=by
 obtain⟨f,fd,F,M,hm,hb⟩:=ok;exact PE.of (cf M F hr hg hm hb .nil kJ ha hdb he hpl) fun σ H Q ⟨F0,fh,sl,q⟩=>⟨F0,fh,sl,fun vs H1 F1 p1 i1 a dx ha' hdx hne=>by
  rw[y9];have f1:F1 a=none:=p1.fh.free ha';have sm:yW H1 (upd (upd H1 dx (.own a)) a (.ins Cc dx [])):=fun b u e1=>by
   rw[yA (yZ e1 ha'),yA (yZ e1 hdx)];exact e1
  refine⟨a,vs,ds,r,F1,dx,rfl,hn,p1.fh.trans sm,f1,yN,i1,hC,fun H' F' dx' xs g1 g2 g3 g4 g5 g6 g7 g8=>⟨rfl,?_⟩⟩;have pu:Pur F1 H1 F' H':=by
   refine⟨g1,g2,fun b u e1=>g3 b u (yZ e1 ha') (sm b u e1),fun b e1=>?_⟩;rcases g4 b e1 with z|z
   ·exact .inl z
   ·exact .inr (sm.free z)
  obtain⟨pf,w⟩:=KY pu ha' g5 g6;refine q _ _ _ (p1.trans pf) ?_;simp only[Is];exact⟨a,dx',xs,rfl,yN,g7,g8.mono w⟩⟩
end
end L3
namespace L2
open PySem PySem.Spec PySem.Calls PyProof.Rows
abbrev K2:=Sum Key (List Key)
theorem Kr {P:Program}{w:World}{k:Key}{u:Value}(r:YA (kV k) u):(qR P w).is k u=true:=by
 cases k with
 |inl i=>obtain⟨t,q⟩:=(show ∃ t,u=Value.int i t from r);subst q;exact beq_self_eq_true i
 |inr x=>obtain⟨t,q⟩:=(show ∃ t,u=Value.str x t from r);subst q;exact beq_self_eq_true x
theorem kh {P:Program}{w:World}:∀ {ks:List Key} {us:List Value},YN (ks.map kV) us->ItemsAre (qR P w) ks us
 |[],_,h=>by cases h;exact .nil
 |k::ks,_,h=>by
  cases h with
  |cons r t=>exact .cons (Kr r) (kh t)
def Zd (h:Heap)(ks:List Key)(a:Addr):Prop:=∃ us:List Value,h.IsTuple a us.toArray/\YN (ks.map kV) us
def Vc (h:Heap):K2->Value->Prop
 |.inl k,v=>YA (kV k) v
 |.inr ks,v=>∃ a,v=.ref a/\Zd h ks a
def v7 (h:Heap)(ks:List K2)(a:Addr):Prop:=∃ us:List Value,h.IsTuple a us.toArray/\Paired (Vc h) ks us
theorem Zd.key {P:Program}{w:World}{h:Heap}{ks:List Key}{a:Addr}(x:Zd h ks a):IsTupleKey (qR P w) h ks a:=by
 obtain⟨us,⟨o,e1,c1,n,d1⟩,r⟩:=x;exact⟨o,us.toArray,n,e1,c1,d1,by simpa using kh r⟩
theorem IsTuple.one {h:Heap}{a:Addr}{us vs:List Value}(x:h.IsTuple a us.toArray)(y:h.IsTuple a vs.toArray):us=vs:=by
 obtain⟨o,e1,c1,n,d1⟩:=x;obtain⟨o',e2,c2,n',d2⟩:=y;rw[e1] at e2;cases e2;rw[d1] at d2;injection d2 with z _;injection z
theorem fm {k k':Key}{v:Value}(x:YA (kV k) v)(y:YA (kV k') v):k=k':=by
 cases k <;> cases k' <;> obtain⟨t1,e1⟩:=x <;> obtain⟨t2,e2⟩:=y <;> rw[e1] at e2 <;> cases e2 <;> rfl
theorem YN.keys_inj:∀ {x y:List Key} {us:List Value},YN (x.map kV) us->YN (y.map kV) us->x=y
 |[],[],_,_,_=>rfl
 |[],_::_,_,h1,h2=>by cases h1;cases h2
 |_::_,[],_,h1,h2=>by cases h2;cases h1
 |k::ks,k'::ks',_,h1,h2=>by
  cases h1 with
  |cons r1 t1=>
   cases h2 with
   |cons r2 t2=>rw[fm r1 r2,YN.keys_inj t1 t2]
theorem Zd.inj {h:Heap}{a:Addr}{x y:List Key}(p:Zd h x a)(q:Zd h y a):x=y:=by
 obtain⟨us,t1,r1⟩:=p;obtain⟨vs,t2,r2⟩:=q;cases IsTuple.one t1 t2;exact r1.keys_inj r2
theorem Vc.inj {h:Heap}{x y:K2}{v:Value}(p:Vc h x v)(q:Vc h y v):x=y:=by
 cases x with
 |inl k=>
  cases y with
  |inl k'=>rw[fm p q]
  |inr ks=>
   obtain⟨a,rfl,_⟩:=q;cases k <;> (obtain⟨t,z⟩:=p;cases z)
 |inr ks=>
  cases y with
  |inl k=>
   obtain⟨a,rfl,_⟩:=p;cases k <;> (obtain⟨t,z⟩:=q;cases z)
  |inr ks'=>
   obtain⟨a,rfl,t1⟩:=p;obtain⟨b,z,t2⟩:=q;cases z;rw[t1.inj t2]
theorem Its2.inj {h:Heap}:∀ {x y:List K2} {us:List Value},Paired (Vc h) x us->Paired (Vc h) y us->x=y
 |[],[],_,_,_=>rfl
 |[],_::_,_,h1,h2=>by cases h1;cases h2
 |_::_,[],_,h1,h2=>by cases h2;cases h1
 |k::ks,k'::ks',_,h1,h2=>by
  cases h1 with
  |cons r1 t1=>
   cases h2 with
   |cons r2 t2=>rw[Vc.inj r1 r2,Its2.inj t1 t2]
theorem v7.inj {h:Heap}{a:Addr}{x y:List K2}(p:v7 h x a)(q:v7 h y a):x=y:=by
 obtain⟨us,t1,r1⟩:=p;obtain⟨vs,t2,r2⟩:=q;cases IsTuple.one t1 t2;exact Its2.inj r1 r2
theorem UL {h h':Heap}{a d:Addr}{us:Array Value}{o:Obj}{es ep}(x:h.IsTuple a us)(e:h.get? d=some o)(hd:o.data=.dict es ep)(sb:Heap.SameBut d h h'):h'.IsTuple a us:=by
 obtain⟨o',e1,c1,n,d1⟩:=x;have ne:a≠d:=fun z=>by
  subst z;rw[e] at e1;cases e1;rw[hd] at d1;cases d1
 exact⟨o',(sb.2 a ne).trans e1,c1,n,d1⟩
theorem Zd.keeps {h h':Heap}{ks:List Key}{a d:Addr}{o:Obj}{es ep}(x:Zd h ks a)(e:h.get? d=some o)(hd:o.data=.dict es ep)(sb:Heap.SameBut d h h'):Zd h' ks a:=by
 obtain⟨us,t1,r1⟩:=x;exact⟨us,UL t1 e hd sb,r1⟩
theorem v7.keeps {h h':Heap}{ks:List K2}{a d:Addr}{o:Obj}{es ep}(x:v7 h ks a)(e:h.get? d=some o)(hd:o.data=.dict es ep)(sb:Heap.SameBut d h h'):v7 h' ks a:=by
 obtain⟨us,t1,r1⟩:=x;refine⟨us,UL t1 e hd sb,Paired.mapP r1 fun k v q=>?_⟩;cases k with
 |inl k=>exact q
 |inr ks=>
  obtain⟨b,e1,t2⟩:=q;exact⟨b,e1,t2.keeps e hd sb⟩
section
variable {P:Program}{w:World}{A:Around}{E:Value->Shared->Prop}{s:Shared}
def h2 (P:Program)(w:World):K2->Int
 |.inl k=>(qR P w).hash k
 |.inr ks=>tupleKeyHash (qR P w) ks
def n2:K2->Nat
 |.inl _=>1
 |.inr ks=>ks.length+1
def ld (P:Program)(w:World)(ks:List K2):Int:=reduceHash (Builtin.Tuple.tupleHashOf (ks.map (h2 P w)))
def Xx (ks:List K2):Nat:=(ks.map n2).sum+1
theorem lv {k:K2}{v:Value}{Q:Int->Shared->Prop}(hu:A.units<cLine)(x:Vc s.heap k v)(q:Q (h2 P w k) {s with toks:=s.toks+n2 k}):wpAny (model P w) A (pyHash v) Q E s:=by
 cases k with
 |inl k=>exact(qR P w).pyHash (Kr x) q
 |inr ks=>
  obtain⟨a,rfl,t⟩:=x;exact wpAny_pyHash_tuple hu (t.key (P:=P) (w:=w)) q
theorem ph {ks:List K2}{a:Addr}{Q:Int->Shared->Prop}(hu:A.units+1<cLine)(x:v7 s.heap ks a)(q:Q (ld P w ks) {s with toks:=s.toks+Xx ks}):wpAny (model P w) A (pyHash (.ref a)) Q E s:=by
 obtain⟨us,⟨o,ho,hc,n,hd⟩,hi⟩:=x;have hT:s.TypeIs (.ref a) "tuple" := ⟨o,ho,hc⟩
 have hu0:A.units<cLine:=by omega
 unfold pyHash
 first|unfold pyHashByItsType|skip
 first|refine ya (wpAny_cRoomFor_or (.inr hu0) ?_)|skip
 refine ya (wpAny_specialOf hT F.slot_tuple_hash.lookup ?_);show wpAny _ _ (if (some (Value.builtin "tuple.__hash__")==some Value.none)=true then _ else _) Q E s;refine wpAny_ite_split (fun z=>absurd z (by rw[beq_builtin_none];exact yw)) fun _=>?_;refine ya (wpAny_specialOf hT F.slot_tuple_hash.lookup ?_);show wpAny _ _ (callSpecialIfBoundUnlessNone? (.ref a) "__hash__" _ >>= _) Q E s;refine ya (wpAny_callSpecialIfBoundUnlessNone?_slot hT F.slot_tuple_hash (wpAny_call_entry F.slot_tuple_hash hT F.entry_tuple_hash ?_ (F.args_tuple_hash_1 _)));show wpAny _ _ (Builtin.Tuple.tupleItemsOf (.ref a) >>= _) _ _ s;refine ya (wpAny_tupleItemsOf ho hd (ya ?_));rw[←Array.forIn_toList];refine wpAny_forIn_list _ (fun r (b:Array Int) t=>∃ ps qs,ks=ps++qs/\Paired (Vc s.heap) qs r/\b.toList=ps.map (h2 P w)/\t={s with toks:=s.toks+(ps.map n2).sum}) _ ?_ ?_ _ _ ⟨[],ks,rfl,by simpa using hi,rfl,rfl⟩
 ·rintro v r b t ⟨ps,qs,rfl,hl,hb,rfl⟩;cases hl with
  |@cons k _ qs' _ h1 hl'=>
   refine ya (lv (P:=P) (w:=w) (s:={s with toks:=s.toks+(ps.map n2).sum}) (by first|exact hu|exact hu0) h1 ?_)
   first
    |exact yg ⟨ps++[k],qs',by simp,hl',by simp[hb],by simp[Nat.add_assoc]⟩
    |exact ya (yg (yg ⟨ps++[k],qs',by simp,hl',by simp[hb],by simp[Nat.add_assoc]⟩))
 ·rintro b t ⟨ps,qs,rfl,hl,hb,rfl⟩;cases hl;rw[y9] at q;show wpAny _ _ (retInt (Builtin.Tuple.tupleHashOf b.toList)) _ _ _;rw[hb];refine wpAny_ret_mkInt ?_;unfold ld reduceHash Xx at q;show wpAny _ _ (if (decide (-(2:Int) ^ 63<=Builtin.Tuple.tupleHashOf (ps.map (h2 P w)))&&decide (Builtin.Tuple.tupleHashOf (ps.map (h2 P w))<2 ^ 63))=true then _ else _) Q E _;split
  ·rename_i hr;rw[ye hr] at q;exact yg (by simpa [Nat.add_assoc] using q)
  ·rename_i hr;rw[yd hr] at q;exact ya (wpAny_rule (yg (by simpa [Nat.add_assoc] using q)))
theorem f8 {k k':Key}{u v:Value}(x:YA (kV k) u)(y:YA (kV k') v):SeqAt.EqAt A s u v (decide (k=k')):=by
 cases k with
 |inl i=>
  obtain⟨t,rfl⟩:=x;cases k' with
  |inl j=>
   obtain⟨t',rfl⟩:=y;have z:=SeqAt.EqAt.int_int (A:=A) (s:=s) i t j t'
   rwa [show(i==j)=decide ((Sum.inl i:Key)=.inl j) by rw[Yq];simp] at z
  |inr j=>
   obtain⟨t',rfl⟩:=y;have z:=SeqAt.EqAt.int_str (A:=A) (s:=s) i t j t'
   rwa [show false=decide ((Sum.inl i:Key)=.inr j) by simp] at z
 |inr i=>
  obtain⟨t,rfl⟩:=x;cases k' with
  |inl j=>
   obtain⟨t',rfl⟩:=y;have z:=SeqAt.EqAt.str_int (A:=A) (s:=s) i t j t'
   rwa [show false=decide ((Sum.inr i:Key)=.inl j) by simp] at z
  |inr j=>
   obtain⟨t',rfl⟩:=y;have z:=SeqAt.EqAt.str_str (A:=A) (s:=s) i t j t'
   rwa [show(i==j)=decide ((Sum.inr i:Key)=.inr j) by rw[Yq];simp] at z
theorem bA {α:Type}[DecidableEq α]{a b:Addr}{us vs:List Value}{xs ys:List α}(h1:s.heap.IsTuple a us.toArray)(h2:s.heap.IsTuple b vs.toArray)(l1:xs.length=us.length)(l2:ys.length=vs.length)(hu:A.units<cLine)
  (he:∀ (j:Nat) (x y:α) (u v:Value),xs[j]?=some x->ys[j]?=some y->us[j]?=some u->vs[j]?=some v->SeqAt.EqAt A.in1 s u v (decide (x=y))):SeqAt.RcAt A s (.ref a) (.ref b) (decide (xs=ys)):=by
 have z:=SeqAt.RcAt.tuples (e:=fun j=>decide (xs[j]?=ys[j]?)) h1 h2 hu (fun j q1 q2=>by
  have p1:j<us.length:=by simpa using q1
  have p2:j<vs.length:=by simpa using q2
  have x1:xs[j]?=some (xs[j]'(by omega)):=ym _;have y1:ys[j]?=some (ys[j]'(by omega)):=ym _;have:=he j _ _ us[j] vs[j] x1 y1 (ym _) (ym _);simpa [x1,y1] using this)
 rwa [show((List.range (min us.toArray.size vs.toArray.size)).all (fun j=>decide (xs[j]?=ys[j]?))&&us.toArray.size==vs.toArray.size)=decide (xs=ys) by
  rw[Yq];simp only[yJ,Yr,List.all_eq_true,jL,YZ,beq_iff_eq];constructor
  ·rintro⟨e1,e2⟩;refine qe fun j=>?_;by_cases hj:j<us.length
   ·exact e1 j (by omega)
   ·rw[yt.mpr (by omega),yt.mpr (by omega)]
  ·intro e;subst e;exact⟨fun _ _=>rfl,by omega⟩] at z
theorem Zd.eq {x y:List Key}{a b:Addr}(p:Zd s.heap x a)(q:Zd s.heap y b)(hu:A.units<cLine):SeqAt.EqAt A s (.ref a) (.ref b) (decide (x=y)):=by
 by_cases hab:a=b
 ·subst hab;cases p.inj q;rw[yO rfl];exact SeqAt.EqAt.same _
 ·obtain⟨us,t1,r1⟩:=p;obtain⟨vs,t2,r2⟩:=q;have l1:=r1.length;have l2:=r2.length;rw[yf] at l1 l2;refine SeqAt.EqAt.of_refs hab (bA t1 t2 l1 l2 hu fun j k k' u v e1 e2 e3 e4=>?_);obtain⟨u',z1,z2⟩:=r1.get (i:=j) (by rw[yl,e1];rfl);obtain⟨v',z3,z4⟩:=r2.get (i:=j) (by rw[yl,e2];rfl);rw[e3] at z1;cases z1;rw[e4] at z3;cases z3;exact f8 z2 z4
theorem Vc.eq {x y:K2}{u v:Value}(p:Vc s.heap x u)(q:Vc s.heap y v)(hu:A.units<cLine):SeqAt.EqAt A s u v (decide (x=y)):=by
 cases x with
 |inl k=>
  cases y with
  |inl k'=>
   have z:=f8 (A:=A) (s:=s) p q
   rwa [show decide (k=k')=decide ((Sum.inl k:K2)=.inl k') by rw[Yq];simp] at z
  |inr ks=>
   obtain⟨b,rfl,vs,t2,r2⟩:=q;rw[show decide ((Sum.inl k:K2)=.inr ks)=false by simp];cases k with
   |inl i=>obtain⟨t,rfl⟩:=p;exact SeqAt.EqAt.int_tuple i t t2 hu
   |inr i=>obtain⟨t,rfl⟩:=p;exact SeqAt.EqAt.str_tuple i t t2 hu
 |inr ks=>
  cases y with
  |inl k=>
   obtain⟨b,rfl,vs,t2,r2⟩:=p;rw[show decide ((Sum.inr ks:K2)=.inl k)=false by simp];cases k with
   |inl i=>obtain⟨t,rfl⟩:=q;exact SeqAt.EqAt.tuple_int i t t2 hu
   |inr i=>obtain⟨t,rfl⟩:=q;exact SeqAt.EqAt.tuple_str i t t2 hu
  |inr ks'=>
   obtain⟨a,rfl,t1⟩:=p;obtain⟨b,rfl,t2⟩:=q;have z:=Zd.eq (A:=A) t1 t2 hu
   rwa [show decide (ks=ks')=decide ((Sum.inr ks:K2)=.inr ks') by rw[Yq];simp] at z
theorem kr {α β:Type}{F:α->β->Prop}:∀ {l:List α} {m:List β} {i:Nat} {x:α} {y:β},Paired F l m->l[i]?=some x->m[i]?=some y->F x y
 |_,_,0,_,_,.cons r t,h1,h2=>by simp at h1 h2;subst h1 h2;exact r
 |_,_,i+1,_,_,.cons r t,h1,h2=>kr (i:=i) t (by simpa using h1) (by simpa using h2)
 |_,_,_,_,_,.nil,h1,_=>by simp at h1
theorem v7.eq {x y:List K2}{a b:Addr}(p:v7 s.heap x a)(q:v7 s.heap y b)(hu:A.units+1<cLine):SeqAt.EqAt A s (.ref a) (.ref b) (decide (x=y)):=by
 by_cases hab:a=b
 ·subst hab;cases p.inj q;rw[yO rfl];exact SeqAt.EqAt.same _
 ·obtain⟨us,t1,r1⟩:=p;obtain⟨vs,t2,r2⟩:=q;exact SeqAt.EqAt.of_refs hab (bA t1 t2 (Paired.length r1) (Paired.length r2) (by omega) fun j k k' u v e1 e2 e3 e4=>Vc.eq (kr r1 e1 e3) (kr r2 e2 e4) (show A.units+1<cLine from hu))
theorem UA {n:Nat}{a:Addr}{us:List Value}{Q:Bool->Shared->Prop}(t:s.heap.IsTuple a us.toArray)(hi:∀ v∈us,∀ Q':Bool->Shared->Prop,Q' true s->wpAny (model P w) A (eqIsQuiet n v) Q' E s)(q:Q true s):wpAny (model P w) A (eqIsQuiet (n+1) (.ref a)) Q E s:=by
 obtain⟨o,ho,hc,m,hd⟩:=t;have hT:s.TypeIs (.ref a) "tuple" := ⟨o,ho,hc⟩
 unfold eqIsQuiet;refine ya (wpAny_specialOf hT F.slot_tuple_eq.lookup ?_);show wpAny _ _ (isInstance (.ref a) (.type "tuple") >>= _) _ _ s;refine ya (wpAny_isInstance hT isSubtype_tuple_tuple ?_);simp only[Bool.not_true,YO,if_false];refine ya (wpAny_seqItems ho hd (ya ?_));show wpAny _ _ (forIn us.toArray _ _) _ _ s;rw[←Array.forIn_toList];refine wpAny_forIn_list _ (fun r b t=>b.1=none/\t=s/\∀ v∈r,v∈us) _ ?_ ?_ _ _ ⟨rfl,rfl,fun v hv=>by simpa using hv⟩
 ·rintro v r b t ⟨hb,rfl,hall⟩;refine ya (hi v (hall v (by simp)) _ ?_);simp only[Bool.not_true,YO,if_false];exact yg ⟨rfl,rfl,fun u hu'=>hall u (yc _ hu')⟩
 ·rintro⟨r1,r2⟩ t ⟨hr,rfl,_⟩;simp only at hr;subst hr;exact yg q
theorem Zx {α β:Type}{F:α->β->Prop}:∀ {l:List α} {m:List β} {y:β},Paired F l m->y∈m->∃ x∈l,F x y
 |_,_,_,.nil,h=>by simp at h
 |_,_,_,.cons r t,h=>by
  rcases yP.mp h with z|z
  ·subst z;exact⟨_,by simp,r⟩
  ·obtain⟨x,hx,hf⟩:=Zx t z;exact⟨x,yc _ hx,hf⟩
theorem kP {k:Key}{v:Value}(r:YA (kV k) v):carriedByValue v=true:=by
 cases k <;> (obtain⟨t,rfl⟩:=r;rfl)
theorem v7.quiet {ks:List K2}{a:Addr}{Q:Bool->Shared->Prop}(x:v7 s.heap ks a)(q:Q true s):wpAny (model P w) A (eqIsQuiet 8 (.ref a)) Q E s:=by
 obtain⟨us,t1,r1⟩:=x;refine UA t1 (fun v hv Q' q'=>?_) q;obtain⟨k,_,hk⟩:=Zx r1 hv;cases k with
 |inl k=>rw[eqIsQuiet_byValue _ (kP hk)];exact yg q'
 |inr ks'=>
  obtain⟨b,rfl,vs,t2,r2⟩:=hk;refine UA t2 (fun u hu Q2 q2=>?_) q';obtain⟨k',_,hk'⟩:=Zx r2 hu;have:∃ c:Key,YA (kV c) u:=by
   obtain⟨i,hl,rfl⟩:=List.getElem_of_mem hu;have hl':i<ks'.length:=by have:=r2.length;rw[yf] at this;omega
   obtain⟨u',z1,z2⟩:=r2.get (i:=i) (x:=kV ks'[i]) (by rw[yl,ym hl'];rfl);rw[ym hl] at z1;cases z1;exact⟨_,z2⟩
  obtain⟨c,hc⟩:=this;rw[eqIsQuiet_byValue _ (kP hc)];exact yg q2
end
def KR (P:Program)(w:World):HeapKind P w (List K2) where
 is:=v7
 hash:=ld P w
 draws:=Xx
 room:=fun A=>A.units+1<cLine
 inj:=fun p q=>p.inj q
 keeps:=fun x e hd sb=>x.keeps e hd sb
 pyHash:=fun hu x q=>ph hu x q
 eqBool:=fun hu x y q=>(v7.eq x y hu) _ _ _ _ q
 quiet:=fun x q=>x.quiet q
def VN (P:Program)(w:World)(a:Addr)(xs:List (List K2×Addr×Value)):HO:=.ext fun h=>(a==sysModules)=false/\∃ o es ep,h.get? a=some o/\o.ExactDict/\o.data=.dict es ep/\es.toList=xs.map (entryOfKey (KR P w))/\(xs.map (·.1)).Nodup
theorem Wo {P:Program}{w:World}{H:Hp}{h:Heap}{a:Addr}{xs:List (List K2×Addr×Value)}(x:(a==sysModules)=false/\∃ o es ep,h.get? a=some o/\o.ExactDict/\o.data=.dict es ep/\es.toList=xs.map (entryOfKey (KR P w))/\(xs.map (·.1)).Nodup):qP P w H h a (VN P w a xs):=by
 refine⟨x,?_,fun h1 h2 ⟨e0,o,es,ep,e,r⟩ k=>⟨e0,o,es,ep,k o e,r⟩⟩;obtain⟨_,o,_,_,e,_⟩:=x;exact⟨o,e⟩
theorem xZ {X:Cx}{pins:List (Addr×Obj)}{σ:St}{H:Hp}{s:Shared}(I:Inv X pins σ H s):sysModules<s.heap.objs.size:=by
 have h:mainGlobals<s.heap.objs.size:=(I.mod.glob.keeps I.bk).lt;exact Nat.lt_trans (by decide) h
section
variable {κ:Type}[DecidableEq κ]
def ur (kvs:List (κ×V))(k:κ):Option V:=(kvs.find? fun kv=>decide (kv.1=k)).map (·.2)
def Vn (kvs:List (κ×V))(k:κ)(v:V):List (κ×V):=
 if (kvs.any fun kv=>decide (kv.1=k))=true then kvs.map (fun kv=>if kv.1=k then (kv.1,v) else kv) else kvs++[(k,v)]
theorem KQ {p:κ×V}{r:List (κ×V)}{k:κ}(e:p.1=k):ur (p::r) k=some p.2:=by simp[ur,Ys,e]
theorem Ks {p:κ×V}{r:List (κ×V)}{k:κ}(e:¬ p.1=k):ur (p::r) k=ur r k:=by simp[ur,Ys,e]
theorem W0 (k:κ):∀ kvs:List (κ×V),(kvs.any fun kv=>decide (kv.1=k))=(ur kvs k).isSome
 |[]=>rfl
 |p::r=>by
  rw[Ja];by_cases e:p.1=k
  ·simp only[KQ e,yO e,Bool.true_or,Option.isSome_some]
  ·rw[Ks e,yC e,Bool.false_or];exact W0 k r
theorem kG (kvs:List (κ×V))(k:κ)(v:V):(Vn kvs k v).length<=kvs.length+1:=by
 unfold Vn;split
 ·rw[yf];omega
 ·rw[Yh,yI,Qd];omega
theorem vd.isSome_eq {o:Option V}{u:Option Value}(r:vd o u):o.isSome=u.isSome:=by
 cases o with
 |none=>cases u with
  |none=>rfl
  |some _=>exact(show False from r).elim
 |some _=>cases u with
  |none=>exact(show False from r).elim
  |some _=>rfl
theorem vd.getD {o:Option V}{u:Option Value}{d:V}{d':Value}(r:vd o u)(rd:YA d d'):YA (o.getD d) (u.getD d'):=by
 cases o with
 |none=>cases u with
  |none=>exact rd
  |some _=>exact(show False from r).elim
 |some _=>cases u with
  |none=>exact(show False from r).elim
  |some _=>exact r
theorem KV.val {kvs:List (κ×V)}{vs:List (κ×Value)}(r:KV kvs vs)(k:κ):vd (ur kvs k) (valueAt vs k):=by
 unfold KV at r
 induction r with
 |nil=>exact True.intro
 |@cons p q ps qs h t ih=>
  obtain⟨h1,h2⟩:=h;by_cases e:p.1=k
  ·have e':q.1=k:=h1.symm.trans e;have b:valueAt (q::qs) k=some q.2:=by simp[valueAt,Ys,e']
   rw[KQ e,b];exact h2
  ·have e':¬ q.1=k:=fun z=>e (h1.trans z);have b:valueAt (q::qs) k=valueAt qs k:=by simp[valueAt,Ys,e']
   rw[Ks e,b];exact ih
theorem KV.any {kvs:List (κ×V)}{vs:List (κ×Value)}(r:KV kvs vs)(k:κ):(kvs.any fun kv=>decide (kv.1=k))=vs.any fun kv=>decide (kv.1=k):=by
 unfold KV at r
 induction r with
 |nil=>rfl
 |cons h t ih=>rw[Ja,Ja,ih,h.1]
theorem KV.repl {kvs:List (κ×V)}{vs:List (κ×Value)}(r:KV kvs vs)(k:κ){y:V}{u:Value}(ry:YA y u) :
  KV (kvs.map fun kv=>if kv.1=k then (kv.1,y) else kv) (vs.map fun kv=>if kv.1=k then (kv.1,u) else kv):=by
 unfold KV at r ⊢
 induction r with
 |nil=>exact .nil
 |@cons p q ps qs h t ih=>
  rw[yy,yy];refine .cons ?_ ih;obtain⟨h1,h2⟩:=h;by_cases e:p.1=k
  ·rw[ye e,ye (h1.symm.trans e)];exact⟨h1,ry⟩
  ·rw[yd e,yd (fun z=>e (h1.trans z))];exact⟨h1,h2⟩
theorem KV.put {kvs:List (κ×V)}{vs:List (κ×Value)}(r:KV kvs vs)(k:κ){y:V}{u:Value}(ry:YA y u):KV (Vn kvs k y) (stored vs k u):=by
 unfold Vn stored;rw[r.any k];by_cases e:(vs.any fun kv=>decide (kv.1=k))=true
 ·rw[ye e,ye e];exact r.repl k ry
 ·rw[yd e,yd e];exact Paired.snoc r ⟨rfl,ry⟩
theorem KV.keys {kvs:List (κ×V)}{vs:List (κ×Value)}(r:KV kvs vs):kvs.map (·.1)=vs.map (·.1):=by
 unfold KV at r
 induction r with
 |nil=>rfl
 |cons h t ih=>rw[yy,yy,ih,h.1]
theorem KV.length {kvs:List (κ×V)}{vs:List (κ×Value)}(r:KV kvs vs):kvs.length=vs.length:=Paired.length r
end
abbrev KT (H:Hp):List (List Key×V)->List (List Key×Addr×Value)->Prop:=Paired fun p q=>p.1=q.1/\H q.2.1=some (.tup (p.1.map kV))/\YA p.2 q.2.2
theorem KT.val {H:Hp}{kvs:List (List Key×V)}{xs:List (List Key×Addr×Value)}(r:KT H kvs xs)(k:List Key):vd (ur kvs k) ((atKey xs k).map (·.2)):=by
 induction r with
 |nil=>exact True.intro
 |@cons p q ps qs h t ih=>
  obtain⟨h1,_,h2⟩:=h;by_cases e:p.1=k
  ·have e':q.1=k:=h1.symm.trans e;have b:atKey (q::qs) k=some q.2:=by simp[atKey,Ys,e']
   rw[KQ e,b];exact h2
  ·have e':¬ q.1=k:=fun z=>e (h1.trans z);have b:atKey (q::qs) k=atKey qs k:=by simp[atKey,Ys,e']
   rw[Ks e,b];exact ih
theorem KT.repl {H:Hp}{kvs:List (List Key×V)}{xs:List (List Key×Addr×Value)}(r:KT H kvs xs)(k:List Key){y:V}{u:Value}(ry:YA y u) :
  KT H (kvs.map fun kv=>if kv.1=k then (kv.1,y) else kv) (xs.map (putAt k u)):=by
 induction r with
 |nil=>exact .nil
 |@cons p q ps qs h t ih=>
  rw[yy,yy];refine .cons ?_ ih;obtain⟨h1,h2,h3⟩:=h;unfold putAt;by_cases e:p.1=k
  ·rw[ye e,ye (h1.symm.trans e)];exact⟨h1,h2,ry⟩
  ·rw[yd e,yd (fun z=>e (h1.trans z))];exact⟨h1,h2,h3⟩
theorem KT.put {H:Hp}{kvs:List (List Key×V)}{xs:List (List Key×Addr×Value)}(r:KT H kvs xs)(k:List Key){b:Addr}{y:V}{u:Value}(hb:H b=some (.tup (k.map kV)))(ry:YA y u) :
  KT H (Vn kvs k y) (storedH xs k b u):=by
 have e:(kvs.any fun kv=>decide (kv.1=k))=(atKey xs k).isSome:=by
  rw[W0,(r.val k).isSome_eq,Option.isSome_map]
 unfold Vn storedH;rw[e];by_cases q:(atKey xs k).isSome=true
 ·rw[ye q,ye q];exact r.repl k ry
 ·rw[yd q,yd q];exact Paired.snoc r ⟨rfl,hb,ry⟩
theorem KT.keeps {H H':Hp}{kvs:List (List Key×V)}{xs:List (List Key×Addr×Value)}(r:KT H kvs xs)(ht:∀ b ys,H b=some (.tup ys)->H' b=some (.tup ys)):KT H' kvs xs:=
 Paired.mapP r fun _ _ z=>⟨z.1,ht _ _ z.2.1,z.2.2⟩
section
variable {P:Program}{w:World}{H:Hp}{h:Heap}{a:Addr}
theorem nF {u:HO}(ok:HOk P w H h)(e:Rd H a u):qP P w H h a u:=e.ok ok
theorem UD {kvs:List (Key×V)}(ok:HOk P w H h)(e:Rd H a (.dK kvs)):kvs.length<=sizeLine/\(a==sysModules)=false/\∃ vs,KV kvs vs/\h.DictOf (qR P w) a vs:=
 show qP P w H h a (.dK kvs) from nF ok e
theorem tI {kvs:List (Key×V)}(ok:HOk P w H h)(e:H a=some (.dK kvs)):kvs.length<=sizeLine/\(a==sysModules)=false/\∃ vs,KV kvs vs/\h.DictOf (qR P w) a vs:=UD ok (.inl e)
theorem uH {ks:List Key}(ok:HOk P w H h)(e:H a=some (.tup (ks.map kV))):(tupleKind (qR P w)).is h ks a:=by
 obtain⟨_,its,r,o,h1,h2,n,h3⟩:=(show qP P w H h a (.tup (ks.map kV)) from ok a _ e)
 exact⟨o,its.toArray,n,h1,h2,h3,by simpa using kh r⟩
theorem U0 {kvs:List (List Key×V)}(ok:HOk P w H h)(e:Rd H a (.dT kvs)):kvs.length<=sizeLine/\(a==sysModules)=false/\
  ∃ xs,KT H kvs xs/\h.DictOfH (tupleKind (qR P w)) a xs:=by
 obtain⟨z,y,xs,r,o,es,ep,h1,h2,h3,h4,h5⟩:=(show qP P w H h a (.dT kvs) from nF ok e)
 refine⟨z,y,xs,r,o,es,ep,h1,h2,h3,h4,fun x hx=>?_,h5⟩;have all:∀ {l:List (List Key×V)} {m:List (List Key×Addr×Value)},KT H l m->∀ x∈m,(tupleKind (qR P w)).is h x.1 x.2.1:=by
  intro l m q
  induction q with
  |nil=>intro x hx;exact nomatch hx
  |@cons p q ps qs hq t ih=>
   intro x hx;rcases yP.mp hx with e|hx
   ·subst e;exact uH ok (by rw[←hq.1];exact hq.2.1)
   ·exact ih x hx
 exact all r x hx
theorem tL {kvs:List (List Key×V)}(ok:HOk P w H h)(e:H a=some (.dT kvs)):kvs.length<=sizeLine/\(a==sysModules)=false/\
  ∃ xs,KT H kvs xs/\h.DictOfH (tupleKind (qR P w)) a xs:=U0 ok (.inl e)
end
def Xd (H:Hp)(a:Addr)(y:V)(r:Option V):Prop:=
 (∃ kvs k,Rd H a (.dK kvs)/\y=kV k/\r=ur kvs k)∨∃ kvs k b,Rd H a (.dT kvs)/\y=.ref b/\H b=some (.tup (k.map kV))/\r=ur kvs k
def W7 (H:Hp)(a:Addr)(y v:V)(H':Hp):Prop:=
 (∃ kvs k,H a=some (.dK kvs)/\y=kV k/\kvs.length<sizeLine/\H'=upd H a (.dK (Vn kvs k v))) ∨
 ∃ kvs k b,H a=some (.dT kvs)/\y=.ref b/\H b=some (.tup (k.map kV))/\kvs.length<sizeLine/\H'=upd H a (.dT (Vn kvs k v))
theorem W7.k {H:Hp}{a:Addr}{kvs:List (Key×V)}{k:Key}{v:V}(e:H a=some (.dK kvs))(hl:kvs.length<sizeLine):W7 H a (kV k) v (upd H a (.dK (Vn kvs k v))):=.inl ⟨kvs,k,e,rfl,hl,rfl⟩
theorem W7.t {H:Hp}{a b:Addr}{kvs:List (List Key×V)}{k:List Key}{v:V}(e:H a=some (.dT kvs))(eb:H b=some (.tup (k.map kV)))(hl:kvs.length<sizeLine) :
  W7 H a (.ref b) v (upd H a (.dT (Vn kvs k v))):=.inr ⟨kvs,k,b,e,rfl,eb,hl,rfl⟩
section
variable {X:Cx}{pins:List (Addr×Obj)}{σ:St}{H:Hp}{s:Shared}{a:Addr}{y v:V}{u r:Value}{o:Option V}{A:Around}{E:Value->Shared->Prop}
theorem Inv.big (I:Inv X pins σ H s):sysModules<s.heap.objs.size:=by
 have h:mainGlobals<s.heap.objs.size:=(I.mod.glob.keeps I.bk).lt;exact Nat.lt_trans (by decide) h
theorem dD {Q:Value->Shared->Prop}(hu:A.units+1<cLine)(I:Inv X pins σ H s)(g:Xd H a y (some v))(ry:YA y u)(h:∀ w' s',Inv X pins σ H s'->YA v w'->Q w' s') :
  wpAny (model X.prog X.w) A (getItem (.ref a) u) Q E s:=by
 rcases g with ⟨kvs,k,e,ey,l⟩|⟨kvs,k,b,e,ey,eb,l⟩
 ·subst ey;obtain⟨z,hd,vs,rel,dd⟩:=UD I.hok e;obtain⟨w',hw,rw'⟩:=vd.some_of (v:=v) (o:=valueAt vs k) (by rw[l];exact rel.val k);exact wpAny_getItem_of (Kr ry) dd.mapOf hw (h w' _ (I.tok _) rw')
 ·subst ey;cases (show u=Value.ref b from ry);obtain⟨z,hd,xs,rel,dd⟩:=U0 I.hok e;obtain⟨w',hw,rw'⟩:=vd.some_of (v:=v) (o:=(atKey xs k).map (·.2)) (by rw[l];exact rel.val k);obtain⟨p,hp,hp2⟩:=yX.mp hw;refine wpAny_getItem_heap (tupleKind_room_in1 hu) (uH I.hok eb) dd hp ?_;rw[hp2];exact h w' _ (I.tok _) rw'
theorem Ag {Q:Value->Shared->Prop}(hu:A.units+1<cLine)(I:Inv X pins σ H s)(g:Xd H a y o)(ry:YA y u)(h:∀ s',Inv X pins σ H s'->Q (.bool o.isSome) s') :
  wpAny (model X.prog X.w) A (compareOp .In u (.ref a)) Q E s:=by
 rcases g with ⟨kvs,k,e,ey,l⟩|⟨kvs,k,b,e,ey,eb,l⟩
 ·subst ey;obtain⟨z,hd,vs,rel,dd⟩:=UD I.hok e;refine wpAny_in_of (Kr ry) hd dd.mapOf ?_;rw[←(rel.val k).isSome_eq,←l];exact h _ (I.tok _)
 ·subst ey;cases (show u=Value.ref b from ry);obtain⟨z,hd,xs,rel,dd⟩:=U0 I.hok e;refine wpAny_in_heap (tupleKind_room_in1 hu) (uH I.hok eb) hd dd ?_;have q:=(rel.val k).isSome_eq;rw[Option.isSome_map] at q;rw[←q,←l];exact h _ (I.tok _)
theorem bR {h':Heap}{t':Nat}{ob:HO}(I:Inv X pins σ H s)(mu:Mut (H a))(hs:Heap.SameBut a s.heap h')(he:∃ q,h'.get? a=some q)(new:qP X.prog X.w (upd H a ob) h' a ob) :
  Inv X pins σ (upd H a ob) {s with heap:=h',toks:=t'}:=
 I.write (x:=a) (e:=a) mu (.inl rfl) (fun b q hb z=>(hs.2 b hb).trans z) he new
theorem ou {P:Program}{w:World}{H':Hp}{h':Heap}{kvs:List (Key×V)}{vs:List (Key×Value)}(z:kvs.length<=sizeLine)(hd:(a==sysModules)=false)(rel:KV kvs vs)(dd:h'.DictOf (qR P w) a vs) :
  qP P w H' h' a (.dK kvs):=⟨z,hd,vs,rel,dd⟩
theorem dm {H':Hp}{Q:Unit->Shared->Prop}(hu:A.units+1<cLine)(I:Inv X pins σ H s)(g:W7 H a y v H')(ry:YA y u)(rv:YA v r)(h:∀ s',Inv X pins σ H' s'->Q () s') :
  wpAny (model X.prog X.w) A (setItem (.ref a) u r) Q E s:=by
 rcases g with ⟨kvs,k,e,ey,l,eH⟩|⟨kvs,k,b,e,ey,eb,l,eH⟩
 ·subst ey eH;obtain⟨z,hd,vs,rel,dd⟩:=tI I.hok e;have hz:vs.length<=sizeLine:=by rw[←rel.length];exact z
  have hl:(Vn kvs k v).length<=sizeLine:=by have:=kG kvs k v;omega
  refine wpAny_setItem_pairs (hsz:=hz) (Kr ry) dd fun h' dd' hs=>h _ ?_;have he:∃ q,h'.get? a=some q:=let ⟨q,_,_,hq,_⟩:=dd';⟨q,hq⟩
  exact bR I (by rw[e];exact True.intro) hs he (ou hl hd (rel.put k rv) dd')
 ·subst ey eH;cases (show u=Value.ref b from ry);obtain⟨z,hd,xs,rel,dd⟩:=tL I.hok e;have hz:xs.length<=sizeLine:=by rw[←Paired.length rel];exact z
  have hl:(Vn kvs k v).length<=sizeLine:=by have:=kG kvs k v;omega
  refine wpAny_setItem_heap (hsz:=hz) (tupleKind_room_in1 hu) (uH I.hok eb) dd fun h' dd' hs=>h _ ?_;obtain⟨q,es,ep,hq,h2,h3,h4,_,h5⟩:=dd';refine bR I (by rw[e];exact True.intro) hs ⟨q,hq⟩ ⟨hl,hd,_,(rel.put k eb rv).keeps fun c ys ec=>?_,q,es,ep,hq,h2,h3,h4,h5⟩;rw[yA (tq ec e (fun z=>nomatch z))];exact ec
end
section
variable {X:Cx}{pins:List (Addr×Obj)}{σ:St}{H:Hp}{s:Shared}{a:Addr}{kvs:List (Key×V)}{k:Key}{u:Value}{A:Around}{E:Value->Shared->Prop}
end
def mI (i:Expr):Prop:=∀ ov iv,subscripted i false ov iv=operate [ov,iv] (getItem ov iv)
theorem bh {prog:Program}{w:World}{A:Around}{E:Value->Shared->Prop}{s:Shared}{env:Env}{value slice:Expr}{pos:Pos}{T id:String}{Q:Value->Shared->Prop}
  (hl:typeLookup (.type T) "__getitem__" = pure (some (.builtin id))) (hs:mI slice)
  (h:wpAny (model prog w) A (eval value env) (fun o s₁=>wpAny (model prog w) A (eval slice env) (fun i s₂=>s₂.TypeIs o T/\wpAny (model prog w) A (getItem o i) Q E s₂) E s₁) E s) :
  wpAny (model prog w) A (eval (.Subscript value slice pos) env) Q E s:=by
 refine Subscript_ (YF h (fun o s₁ h₁=>YF h₁ (fun i s₂ h₂=>?_) fun _ _ x=>x) fun _ _ x=>x);obtain⟨hT,h₂⟩:=h₂;unfold subscriptTail;refine ya ?_;rw[getitemInPython_of_ne hT.not_modules];refine ya (wpAny_specialOf hT hl ?_);have fin:wpAny (model prog w) A (subscripted slice false o i) (fun r s₃=>wpAny (model prog w) A (letTemporaryGo value o r >>= fun _=>pure r) Q E s₃) E s₂:=by
  rw[hs o i];exact wpAny_operating (YF h₂ (fun r s₃ h₃=>ya (wpAny_letTemporaryGo (yg h₃))) fun _ _ x=>x)
 first
  |exact yg (ya fin)
  |exact ya (yg (ya fin))
  |exact ya fin
theorem WU {X:Cx}{pins:List (Addr×Obj)}{σ:St}{H:Hp}{s:Shared}{a:Addr}{y:V}{o:Option V}(I:Inv X pins σ H s)(g:Xd H a y o):s.TypeIs (.ref a) "dict" :=by
 rcases g with ⟨kvs,k,e,_,_⟩|⟨kvs,k,b,e,_,_,_⟩
 ·obtain⟨_,_,vs,_,dd⟩:=UD I.hok e;exact dd.typeIs
 ·obtain⟨_,_,xs,_,dd⟩:=U0 I.hok e;exact dd.typeIs
def sM (td ty:TE):TE:=fun σ H Q=>td σ H fun x H1=>ty σ H1 fun y H2=>∃ a v,x=.ref a/\Xd H2 a y (some v)/\Q v H2
def tH (td ty tv:TE):TS:=fun D σ H=>tv σ H fun v H1=>td σ H1 fun x H2=>ty σ H2 fun y H3=>∃ a H4,x=.ref a/\W7 H3 a y v H4/\D.nx σ H4
section
variable {X:Cx}{o i e value:Expr}{pos pos' tpos:Pos}{td ty tv:TE}
theorem lP (hu:X.A.units+1<cLine)(ho:PE X o td)(hi:PE X i ty)(hs:mI i):PE X (.Subscript o i pos) (sM td ty):=by
 intro pins s σ H Q I h;refine bh PySem.F.slot_dict_getitem.lookup hs (thn (ho pins s σ H _ I h) fun u s1 ⟨x,H1,I1,rx,q1⟩=>thn (hi pins s1 σ H1 _ I1 q1) fun iv s2 ⟨y,H2,I2,ry,a,v,ex,g,q2⟩=>?_);subst ex;obtain rfl:u=Value.ref a:=rx;exact⟨WU I2 g,dD hu I2 g ry fun w' s3 I3 rw'=>⟨v,H2,I3,rw',q2⟩⟩
theorem bT (hu:X.A.units+1<cLine)(ho:PE X o td)(hi:PE X i ty)(hv:PE X value tv)(hs:swapsWith value (some (.Subscript o i pos')) pos.line X.env=pure false) :
  PS X (.Assign [.Subscript o i pos'] value pos) (tH td ty tv):=by
 intro pins s σ H D I h;refine wpAny_Assign_Subscript (thn (hv pins s σ H _ I h) fun r s1 ⟨v,H1,I1,rv,q1⟩=>thn (ho pins s1 σ H1 _ I1 q1) fun u s2 ⟨x,H2,I2,rx,q2⟩=>thn (hi pins s2 σ H2 _ I2 q2) fun iv s3 ⟨y,H3,I3,ry,a,H4,ex,g,q3⟩=>?_) hs;subst ex;obtain rfl:u=Value.ref a:=rx;exact dm hu I3 g ry rv fun s4 I4=>⟨σ,H4,I4,q3⟩
end
theorem iM {P:Program}{w:World}{H:Hp}(h:Heap)(hb:sysModules<h.objs.size):qP P w H (h.push {cls:=.type "dict", data:=.dict #[]}) h.objs.size (.dK []):=
 ⟨qU _,beq_eq_false_iff_ne.mpr (Ne.symm (yQ hb)),[],.nil,Heap.DictOf.new h⟩
theorem f7 {P:Program}{w:World}{H:Hp}(h:Heap)(hb:sysModules<h.objs.size):qP P w H (h.push {cls:=.type "dict", data:=.dict #[]}) h.objs.size (.dT []):=
 ⟨qU _,beq_eq_false_iff_ne.mpr (Ne.symm (yQ hb)),[],.nil,_,#[],0,yu _ rfl,⟨rfl,rfl,rfl⟩,rfl,rfl,List.nodup_nil⟩
def pe:TE:=fun _ H Q=>∀ p,H p=none->Q (.ref p) (upd H p (.dK []))
def rC:TE:=fun _ H Q=>∀ p,H p=none->Q (.ref p) (upd H p (.dT []))
section
variable {X:Cx}{pos:Pos}
theorem gU:PE X (.Dict [] [] pos) pe:=fun pins s σ H Q I h=>
 wpAny_Dict_empty ⟨.ref s.heap.objs.size,_,I.laid (a:=s.heap.objs.size) (o:=.dK []) (t':=s.toks) (fun _ _ q=>yk _ q) (yo _) (iM s.heap I.big),rfl,h _ (I.hok.fresh (yo _))⟩
theorem xF:PE X (.Dict [] [] pos) rC:=fun pins s σ H Q I h=>
 wpAny_Dict_empty ⟨.ref s.heap.objs.size,_,I.laid (a:=s.heap.objs.size) (o:=.dT []) (t':=s.toks) (fun _ _ q=>yk _ q) (yo _) (f7 s.heap I.big),rfl,h _ (I.hok.fresh (yo _))⟩
end
structure M2 (X:Cx)(o:Expr)(m:Str)(apos:Pos)(e f:Expr)(cpos:Pos):Prop where
 base:attributeBase o m X.env (eval o X.env)=eval o X.env
 few:((backTo cpos (starEach [e,f] X.env)).all (fun x=>!x.1)&&(backToKw cpos (keywordEach [] X.env)).all (fun x=>x.1.isSome)
  && decide (([e,f]:List Expr).length+([]:List Keyword).length+(if ([]:List Keyword).isEmpty then 0 else 1)<30))=true
 line:(apos.endLine==cpos.line)=true
 trees:backTo cpos (starEach [e,f] X.env)=[(false,eval e X.env),(false,eval f X.env)]
def IsD (H:Hp)(a:Addr):Prop:=(∃ kvs,Rd H a (.dK kvs))∨∃ kvs,Rd H a (.dT kvs)
theorem rP {X:Cx}{pins:List (Addr×Obj)}{σ:St}{H:Hp}{s:Shared}{a:Addr}(I:Inv X pins σ H s)(d:IsD H a) :
  s.TypeIs (.ref a) "dict" /\ (∀ b,Value.ref a=.ref b->∃ ob,s.heap.get? b=some ob/\ob.dict=none)/\(a==sysModules)=false:=by
 rcases d with ⟨kvs,e⟩|⟨kvs,e⟩
 ·obtain⟨_,hd,vs,_,dd⟩:=UD I.hok e;refine⟨dd.typeIs,fun b q=>?_,hd⟩;cases q;obtain⟨ob,_,_,h1,h2,_⟩:=dd;exact⟨ob,h1,h2.2.1⟩
 ·obtain⟨_,hd,xs,_,dd⟩:=U0 I.hok e;refine⟨dd.typeIs,fun b q=>?_,hd⟩;cases q;obtain⟨ob,_,_,h1,h2,_⟩:=dd;exact⟨ob,h1,h2.2.1⟩
section
variable {X:Cx}{pins:List (Addr×Obj)}{σ:St}{H:Hp}{s:Shared}{a:Addr}{y d:V}{u r:Value}{o:Option V}{A:Around}{E:Value->Shared->Prop}
theorem rq {Q:Value->Shared->Prop}(hu:A.units+1<cLine)(I:Inv X pins σ H s)(g:Xd H a y o)(ry:YA y u)(rd:YA d r)(h:∀ w' s',Inv X pins σ H s'->YA (o.getD d) w'->Q w' s') :
  wpAny (model X.prog X.w) A (call (.builtin "dict.get") [.ref a,u,r]) Q E s:=by
 rcases g with ⟨kvs,k,e,ey,l⟩|⟨kvs,k,b,e,ey,eb,l⟩
 ·subst ey;obtain⟨z,hd,vs,rel,dd⟩:=UD I.hok e;refine call_meetsIn PySem.F.slot_dict_get dd.typeIs PySem.F.entry_dict_get (PySem.F.args_dict_get_3 _ _ _) (meets_dict_get_default (qR X.prog X.w) a (Kr ry) hd r) ⟨_,dd.mapOf,h _ _ (I.tok _) ?_⟩;rw[l];exact(rel.val k).getD rd
 ·subst ey;cases (show u=Value.ref b from ry);obtain⟨z,hd,xs,rel,dd⟩:=U0 I.hok e;refine call_meetsIn PySem.F.slot_dict_get dd.typeIs PySem.F.entry_dict_get (PySem.F.args_dict_get_3 _ _ _) (meetsH_dict_get_default (tupleKind (qR X.prog X.w)) a b hd r) ⟨tupleKind_room_in1 hu,k,xs,uH I.hok eb,dd,h _ _ (I.tok _) ?_⟩;rw[l];exact(rel.val k).getD rd
end
def oj (td ty tx:TE):TE:=fun σ H Q=>td σ H fun x H1=>∃ a,x=.ref a/\IsD H1 a/\ty σ H1 fun y H2=>tx σ H2 fun z H3=>∃ o,Xd H3 a y o/\Q (o.getD z) H3
section
variable {X:Cx}{o e f:Expr}{apos cpos:Pos}{td ty tx:TE}
theorem WQ (hu:X.A.units+1<cLine)(ho:PE X o td)(he:PE X e ty)(hf:PE X f tx)(m:M2 X o "get" apos e f cpos):PE X (.Call (.Attribute o "get" apos) [e,f] [] cpos) (oj td ty tx):=by
 intro pins s σ H Q I h;refine wpAny_Call_method m.base m.few m.line PySem.F.plainAttrs_dict PySem.F.slot_dict_get PySem.F.type_dict_get (thn (ho pins s σ H _ I h) fun u s1 ⟨x,H1,I1,rx,a,ex,d,q1⟩=>?_);subst ex;obtain rfl:u=Value.ref a:=rx;obtain⟨t1,t2,_⟩:=rP I1 d;refine⟨t1,t2,?_⟩;rw[m.trees];refine Calls.callWith_builtin rfl (Calls.evalArgs_plain (Calls.spliced_cons (thn (he pins s1 σ H1 _ I1 q1) fun iv s2 ⟨y,H2,I2,ry,q2⟩=>
  Calls.spliced_cons (thn (hf pins s2 σ H2 _ I2 q2) fun fv s3 ⟨z,H3,I3,rz,ov,g,q3⟩=>Calls.spliced_nil ?_))))
 exact rq hu I3 g ry rz fun w' s4 I4 rw'=>⟨_,H3,I4,rw',q3⟩
end
section
variable {X:Cx}{pins:List (Addr×Obj)}{σ:St}{H:Hp}{s:Shared}{a:Addr}{kvs:List (Key×V)}{A:Around}{E:Value->Shared->Prop}
end
section
variable {X:Cx}{pins:List (Addr×Obj)}{σ:St}{H:Hp}{s:Shared}{a:Addr}{y:V}{u:Value}{A:Around}{E:Value->Shared->Prop}
end
section
variable {X:Cx}{pins:List (Addr×Obj)}{σ:St}{H:Hp}{s:Shared}{a:Addr}
def nI:HO->Bool
 |.dK _=>true
 |.dT _=>true
 |_=>false
theorem HOk.known {P:Program}{w:World}{h:Heap}{u:HO}{o:Obj}(ok:HOk P w H h)(e:H a=some u)(d:nI u=true)(ho:h.get? a=some o):HOk P w (upd H a (.frz o u)) h:=fun b v q=>by
 have nown:∀ c y,H c=some (.own y)->c≠a:=fun c y r z=>by subst z;rw[e] at r;cases r;cases d
 have ntup:∀ c xs,H c=some (.tup xs)->c≠a:=fun c xs r z=>by subst z;rw[e] at r;cases r;cases d
 have st:∀ {b:Addr} {v:HO},qP P w H h b v->qP P w (upd H a (.frz o u)) h b v:=fun {b v} x=>x.stay (fun _ _ _ z=>z) (fun c z=>by rw[yA (nown c _ z)];exact z) fun c xs z=>by rw[yA (ntup c _ z)];exact z
 by_cases hb:b=a
 ·subst hb;rw[yN] at q;cases q;exact⟨ho,st (ok _ _ e)⟩
 ·rw[yA hb] at q;exact st (ok _ _ q)
theorem Inv.known {u:HO}{o:Obj}(I:Inv X pins σ H s)(e:H a=some u)(d:nI u=true)(ho:s.heap.get? a=some o):Inv X pins σ (upd H a (.frz o u)) s:=by
 have nn:∀ b,H b=none->upd H a (.frz o u) b=none:=fun b z=>by
  rw[yA (fun y=>by subst y;rw[e] at z;cases z)];exact z
 refine⟨I.ok,I.os,I.bare,⟨I.base.keep,I.base.slot,fun b o' q n hx=>nn b (I.base.free b o' q n hx),I.base.there,fun b xs q=>?_,fun b o' v q=>?_,fun b ps q=>?_⟩,I.loc,I.cell,nn _ I.free,fun x c q=>nn _ (I.freeC x c q),fun p hp=>?_,I.hok.known e d ho,I.len⟩
 ·have z:=I.base.tups b xs q;rw[yA (fun y=>by subst y;rw[e] at z;cases z;cases d)];exact z
 ·have z:=I.base.frzs b o' v q;rw[yA (fun y=>by subst y;rw[e] at z;cases z;cases d)];exact z
 ·obtain⟨m,z⟩:=I.base.tbls b ps q;exact⟨m,by rw[yA (fun y=>by subst y;rw[e] at z;cases z;cases d)];exact z⟩
 ·obtain⟨q1,q2,q3⟩:=I.pin p hp;exact⟨q1,nn _ q2,q3⟩
end
def Itk (a:Addr)(o:Obj)(kvs:List (Key×V)):It:=
 ⟨fun i H=>H a=some (.frz o (.dK kvs))/\i<kvs.length,fun i H x H'=>H'=H/\∃ k v,kvs[i]?=some (k,v)/\x=kV k,fun i H=>H a=some (.frz o (.dK kvs))/\kvs.length<=i⟩
theorem sL {P:Program}{w:World}{k:Key}{u:Value}(h:(qR P w).is k u=true):YA (kV k) u:=by
 cases k with
 |inl i=>obtain⟨t,e⟩:=Value.isInt_shape (k:=i) (v:=u) h;exact⟨t,e⟩
 |inr x=>obtain⟨t,e⟩:=Value.isStrOf_shape (x:=x) (v:=u) h;exact⟨t,e⟩
theorem aa {P:Program}{w:World}{H:Hp}{h:Heap}{a:Addr}{o:Obj}{kvs:List (Key×V)}{es:Array DictEntry}{ep:Nat}(ok:HOk P w H h)(e:H a=some (.frz o (.dK kvs)))(hd:o.data=.dict es ep):∃ vs,KV kvs vs/\Heap.DictAt (qR P w) h a vs ep/\(a==sysModules)=false:=by
 obtain⟨h1,z,y,vs,r,o',es',ep',q1,q2,q3,q4⟩:=(show qP P w H h a (.frz o (.dK kvs)) from ok a _ e)
 rw[h1] at q1;cases q1;rw[hd] at q3;cases q3;exact⟨vs,r,⟨o,es,h1,q2,hd,q4⟩,y⟩
theorem dQ {P:Program}{w:World}{K:W.Frag}{tg:Expr}{a it:Addr}{o:Obj}{kvs:List (Key×V)}{es:Array DictEntry}{ep:Nat}(hd:o.data=.dict es ep):Turn P w K tg (Itk a o kvs) [it] it (fun i h=>h.IsKeyIter it a i kvs.length ep) where
 mem:=by simp
 obj:=fun i h st b hb=>by
  have e:b=it:=by simpa using hb
  subst e;obtain⟨o,e,c,d⟩:=st;exact⟨o,e,fun v z=>by rw[d] at z;cases z⟩
 keep:=fun i h h' st k=>st.at fun o e=>k it (by simp) o e
 item:=by
  intro X hP hw hK hc i pins s σ H E I hf st hg;subst hP hw hK;obtain⟨ha,hi⟩:=hg;obtain⟨f0,f1,f2,f3,f4,f5⟩:=hf it (by simp);obtain⟨vs,r,da,_⟩:=aa I.hok ha hd;have hl:=r.length;obtain⟨p,hp⟩:∃ p,vs[i]?=some p:=⟨_,ym (by omega)⟩
  obtain⟨q,hq⟩:∃ q,kvs[i]?=some q:=⟨_,ym hi⟩
  have ek:q.1=p.1:=by
   have:=congrArg (·[i]?) r.keys;simp only[yl,hp,hq,Option.map_some,Option.some.injEq] at this;exact this
  rw[hl] at st;refine wpAny_pyNext_dict_item st da (k:=p.1) (v:=p.2) hp fun key h' hk st' sb=>?_;have I1:Inv X pins σ H {s with heap:=h'}:=I.turned (t':=s.toks) (fun b o hb e=>(sb.2 b hb).trans e) f0 f1 f3 f4 f5;refine⟨key,rfl,letGo_keyiter st' ⟨kV q.1,H,I1,?_,⟨rfl,q.1,q.2,hq,rfl⟩,?_,fun b hb=>(hf b hb).1⟩⟩
  ·rw[ek];exact sL hk
  ·rw[hl];exact st'
 done:=by
  intro X hP hw hK hc i pins s σ H E I hf st hg;subst hP hw hK;obtain⟨ha,hi⟩:=hg;obtain⟨f0,f1,f2,f3,f4,f5⟩:=hf it (by simp);obtain⟨vs,r,da,_⟩:=aa I.hok ha hd;have hl:=r.length;rw[hl] at st;exact wpAny_pyNext_dict_end (I.ok.hd hc) st da (yt.mpr (by omega)) fun h' eb=>⟨rfl,I.turned (t':=s.toks) (fun b o hb e=>eb b o hb e) f0 f1 f3 f4 f5⟩
 self:=fun _ _ _ _ _ st h=>wpAny_pyIter_keyiter st h
def tW (tl:TE):TI:=fun σ H R=>tl σ H fun x H1=>∃ a o kvs,x=.ref a/\H1 a=some (.frz o (.dK kvs))/\R (Itk a o kvs) H1
theorem bU {X:Cx}{tg l:Expr}{tl:TE}(hl:PE X l tl):PI X tg l (tW tl):=by
 intro pins s σ H R I h;refine thn (hl pins s σ H _ I h) fun v s1 ⟨x,H1,I1,r1,q1⟩=>?_;obtain⟨a,o,kvs,e,ha,q⟩:=q1;subst e;cases r1;obtain⟨h1,z,y,vs0,r0,o',es,ep,p1,p2,p3,p4⟩:=(show qP X.prog X.w H1 s1.heap a (.frz o (.dK kvs)) from I1.hok a _ ha)
 rw[h1] at p1;cases p1;obtain⟨vs,r,da,hy⟩:=aa I1.hok ha p3;refine wpAny_pyIter_dict hy da ?_;refine⟨s1.heap.objs.size,[s1.heap.objs.size],_,_,H1,rfl,I1.kept (t':=s1.toks) fun b o e=>yk _ e,dQ (a:=a) (kvs:=kvs) p3,?_,fun b hb=>?_,q⟩
 ·rw[r.length];exact⟨_,yu _ rfl,rfl,rfl⟩
 ·have e:b=s1.heap.objs.size:=by simpa using hb
  subst e;exact I1.fpOk (yo _) (I1.hok.fresh (yo _))
end L2
namespace L3
open PySem PySem.Spec PySem.Calls PyProof.Rows L2
def vV:Key->D
 |.inl i=>.int i
 |.inr x=>.str x
def k2D:K2->D
 |.inl k=>vV k
 |.inr ks=>.tup (ks.map vV)
def kD (ks:List K2):D:=.tup (ks.map k2D)
theorem V0 {K:W.Frag}{F:Hp}{k:Key}{v:V}(h:Is K F (vV k) v):v=kV k:=by
 cases k with
 |inl i=>exact isI h
 |inr x=>exact isS h
theorem VM {K:W.Frag}{F:Hp}:∀ {ks:List Key} {xs:List V},IsL K F (ks.map vV) xs->xs=ks.map kV
 |[],_,h=>by simp only[QB,IsL] at h;subst h;rfl
 |k::ks,_,h=>by
  simp only[yy,IsL] at h;obtain⟨x,r,rfl,h1,h2⟩:=h;rw[V0 h1,VM h2];rfl
section
variable {X:Cx}{pins:List (Addr×Obj)}{σ:L2.St}{H:Hp}{s:Shared}
theorem sT (I:Inv X pins σ H s){k:K2}{x:V}{u:Value}(h:Is X.K H (k2D k) x)(r:YA x u):Vc s.heap k u:=by
 cases k with
 |inl k=>
  rw[V0 h] at r;exact r
 |inr ks=>
  obtain⟨a,xs,rfl,s1,il⟩:=isT h;obtain⟨us,rv,t1,_⟩:=I.tuple s1;rw[VM il] at rv;exact⟨a,r,us,t1,rv⟩
theorem gH (I:Inv X pins σ H s):∀ {ks:List K2} {xs:List V} {us:List Value},IsL X.K H (ks.map k2D) xs->YN xs us->Paired (Vc s.heap) ks us
 |[],_,_,h,r=>by
  simp only[QB,IsL] at h;subst h;cases r;exact .nil
 |k::ks,_,_,h,r=>by
  simp only[yy,IsL] at h;obtain⟨x,r',rfl,h1,h2⟩:=h;cases r with
  |cons a b=>exact .cons (sT I h1 a) (gH I h2 b)
theorem ka (I:Inv X pins σ H s){ks:List K2}{a:Addr}(h:Is X.K H (kD ks) (.ref a)):v7 s.heap ks a:=by
 obtain⟨a',xs,e,s1,il⟩:=isT h;cases e;obtain⟨us,rv,t1,_⟩:=I.tuple s1;exact⟨us,t1,gH I il rv⟩
end
abbrev DP (K:W.Frag)(F:Hp):List (List K2×D)->List (List K2×Addr×Value)->Prop:=Paired fun p q=>p.1=q.1/\Is K F (kD q.1) (.ref q.2.1)/\∃ v,YA v q.2.2/\Is K F p.2 v
def atD (kvs:List (List K2×D))(k:List K2):Option D:=(kvs.find? fun p=>decide (p.1=k)).map (·.2)
def X9 (kvs:List (List K2×D))(k:List K2)(d:D):List (List K2×D):=if (atD kvs k).isSome=true then kvs.map fun p=>if p.1=k then (p.1,d) else p else kvs++[(k,d)]
theorem DP.mono {K:W.Frag}{F F':Hp}{kvs:List (List K2×D)}{xs:List (List K2×Addr×Value)}(h:DP K F kvs xs)(e:yW F F'):DP K F' kvs xs:=Paired.mapP h fun p q ⟨h1,h2,v,r,i⟩=>⟨h1,h2.mono e,v,r,i.mono e⟩
theorem DP.at {K:W.Frag}{F:Hp}{k:List K2}:∀ {kvs:List (List K2×D)} {xs:List (List K2×Addr×Value)},DP K F kvs xs->(atKey xs k=none/\atD kvs k=none)∨∃ p d v,atKey xs k=some p/\atD kvs k=some d/\YA v p.2/\Is K F d v
 |_,_,.nil=>.inl ⟨rfl,rfl⟩
 |_,_,@Paired.cons _ _ _ p q ps qs ⟨h1,h2,v,r,i⟩ t=>by
  by_cases e:p.1=k
  ·have e':q.1=k:=h1.symm.trans e;exact .inr ⟨q.2,p.2,v,by simp[atKey,Ys,e'],by simp[atD,Ys,e],r,i⟩
  ·have e':¬ q.1=k:=fun z=>e (h1.trans z);have ih:=DP.at (k:=k) t
   rwa [show atKey qs k=atKey (q::qs) k by simp[atKey,Ys,e'],show atD ps k=atD (p::ps) k by simp[atD,Ys,e]] at ih
theorem DP.some_eq {K:W.Frag}{F:Hp}{k:List K2}{kvs:List (List K2×D)}{xs:List (List K2×Addr×Value)}(h:DP K F kvs xs):(atKey xs k).isSome=(atD kvs k).isSome:=by
 rcases h.at (k:=k) with ⟨e1,e2⟩|⟨p,d,v,e1,e2,_⟩
 ·rw[e1,e2];rfl
 ·rw[e1,e2];rfl
theorem DP.put {K:W.Frag}{F:Hp}{k:List K2}{kvs:List (List K2×D)}{xs:List (List K2×Addr×Value)}{a:Addr}{d:D}{v:V}{u:Value}(h:DP K F kvs xs)(hk:Is K F (kD k) (.ref a))(r:YA v u)(i:Is K F d v):DP K F (X9 kvs k d) (storedH xs k a u):=by
 unfold X9 storedH;rw[h.some_eq];split
 ·have go:∀ {ps:List (List K2×D)} {qs:List (List K2×Addr×Value)},DP K F ps qs->DP K F (ps.map fun p=>if p.1=k then (p.1,d) else p) (qs.map (putAt k u)):=by
   intro ps qs t
   induction t with
   |nil=>exact .nil
   |@cons p q ps qs hh t ih=>
    obtain⟨h1,h2,v',r',i'⟩:=hh;rw[yy,yy];refine .cons ?_ ih;unfold putAt;by_cases e:p.1=k
    ·rw[ye e,ye (h1.symm.trans e)];exact⟨h1,h2,v,r,i⟩
    ·rw[yd e,yd fun z=>e (h1.trans z)];exact⟨h1,h2,v',r',i'⟩
  exact go h
 ·exact Paired.snoc h ⟨rfl,hk,v,r,i⟩
def Jg (P:Program)(w:World)(K:W.Frag)(a:Addr)(kvs:List (List K2×D)):Ow:=fun F o=>∃ xs,o=VN P w a xs/\DP K F kvs xs
theorem VC {P:Program}{w:World}{K:W.Frag}{a:Addr}{kvs:List (List K2×D)}{L:Bool}:∀ F o,Jg P w K a kvs F o->JO L o=true:=fun F o ⟨xs,e,_⟩=>by subst e;rfl
section
variable {X:Cx}{pins:List (Addr×Obj)}{σ:L2.St}{H:Hp}{s:Shared}{l:Addr}{xs:List (List K2×Addr×Value)}{kvs:List (List K2×D)}
theorem wV (I:Inv X pins σ H s)(e:H l=some (VN X.prog X.w l xs))(h:DP X.K H kvs xs):(l==sysModules)=false/\s.heap.DictOfH (KR X.prog X.w) l xs:=by
 obtain⟨⟨h0,o,es,ep,h1,h2,h3,h4,h5⟩,_⟩:=(show qP X.prog X.w H s.heap l (VN X.prog X.w l xs) from I.hok l _ e)
 refine⟨h0,o,es,ep,h1,h2,h3,h4,fun x hx=>?_,h5⟩;obtain⟨p,_,hp⟩:=Zx h hx;exact ka I hp.2.1
end
def tF (X:Cx)(neg:Bool):R2:=fun x y H Q=>∃ b l ks kvs xs,x=.ref b/\Is X.K H (kD ks) x/\y=.ref l/\H l=some (VN X.prog X.w l xs)/\DP X.K H kvs xs/\Q (.bl (if neg then !(atD kvs ks).isSome else (atD kvs ks).isSome)) H
def tM (X:Cx):nc:=fun o i v H Q=>∃ l b ks kvs xs d,o=.ref l/\i=.ref b/\Is X.K H (kD ks) i/\H l=some (VN X.prog X.w l xs)/\DP X.K H kvs xs/\kvs.length<sizeLine/\Is X.K H d v/\∀ u,YA v u->Q (upd H l (VN X.prog X.w l (storedH xs ks b u)))
section
variable {X:Cx}
theorem oO (hu:X.A.units+64<cLine):OpR X (compareOp .In) (tF X false):=by
 rintro pins s σ H x y v u Q I rx ry ⟨b,l,ks,kvs,xs,rfl,hk,rfl,hl,dp,q⟩;cases rx;cases ry;obtain⟨h0,dd⟩:=wV I hl dp;refine wpAny_in_heap (show X.A.units+1+1<cLine by omega) (ka I hk) h0 dd ?_;rw[dp.some_eq];exact⟨.bl _,H,I.tok _,rfl,q⟩
theorem lm (hu:X.A.units+64<cLine):pj X (tM X):=by
 rintro pins s σ H o i v ov iv u Q I ro ri rv ⟨l,b,ks,kvs,xs,d,rfl,rfl,hk,hl,dp,hz,hd,q⟩;cases ro;cases ri;obtain⟨h0,dd⟩:=wV I hl dp;have hx:xs.length<=sizeLine:=by rw[←Paired.length dp];omega
 refine wpAny_setItem_heap (hsz:=hx) (show X.A.units+1+1<cLine by omega) (ka I hk) dd fun h' dd' hs=>⟨_,?_,q u rv⟩
 obtain⟨o',es,ep,z1,z2,z3,z4,_,z5⟩:=dd';exact I.write (x:=l) (e:=l) (by rw[hl];exact True.intro) (.inl rfl) (fun c q hb z=>(hs.2 c hb).trans z) ⟨o',z1⟩ (Wo ⟨h0,o',es,ep,z1,z2,z3,z4,z5⟩)
theorem gT {pos:Pos}:PE X (.Dict [] [] pos) (fun _ H Q=>∀ p,H p=none->Q (.ref p) (upd H p (VN X.prog X.w p []))):=fun pins s σ H Q I h=>
 wpAny_Dict_empty ⟨.ref s.heap.objs.size,_,I.laid (a:=s.heap.objs.size) (o:=VN X.prog X.w s.heap.objs.size []) (t':=s.toks) (fun _ _ q=>yk _ q) (yo _)
  (Wo ⟨beq_eq_false_iff_ne.mpr (Ne.symm (yQ (xZ I))),_,#[],0,yu _ rfl,⟨rfl,rfl,rfl⟩,rfl,rfl,List.nodup_nil⟩),rfl,h _ (I.hok.fresh (yo _))⟩
end
section
variable {X:Cx}{B:Bs}{Γ:Ga}{Ω:Om}{E:E3}{rest:List Stmt}{a b e o i:Expr}{pos pos' spos tpos:Pos}{R:D->Om->Prop}{RT:Bool->Om->Prop}{x:Str}
theorem Xh (r:∀ l,R (.raw (.ref l)) ((l,Jg X.prog X.w X.K l [])::Ω)):V3 X B (.Dict [] [] pos) Γ Ω R:=fun F σ H S pins s I=>
 gT pins s σ H _ I fun l hl=>⟨.raw (.ref l),_,F,S.new (Pur.layOwn S.fh hl) hl (S.fh.free hl) yN (fun F2 _=>⟨[],rfl,.nil⟩),yW.refl _,Vz F,r l⟩
theorem mV {neg:Bool}{F:Hp}{σ:L2.St}{H:Hp}{ks:List K2}{l:Addr}{kvs:List (List K2×D)}{x y:V}{Q:VK}(S:Sat X.K B Γ Ω F σ H)(i1:Is X.K F (kD ks) x)(i2:Is X.K F (.raw (.ref l)) y)(m:(l,Jg X.prog X.w X.K l kvs)∈Ω)
  (q:Q (.bl (if neg then !(atD kvs ks).isSome else (atD kvs ks).isSome)) H):tF X neg x y H Q:=by
 cases isR i2;obtain⟨fa,o',ha,ho⟩:=S.own _ m;obtain⟨xs,rfl,dp⟩:=ho F (yW.refl _);obtain⟨c,_,rfl,_⟩:=isT i1;exact⟨c,l,ks,kvs,xs,rfl,i1.mono S.fh,rfl,ha,dp.mono S.fh,q⟩
theorem rQ (hu:X.A.units+64<cLine)(h:V3 X B a Γ Ω fun d Ω1=>∃ ks,d=kD ks/\V3 X B b Γ Ω1 fun d' Ω2=>∃ l kvs,d'=.raw (.ref l)/\(l,Jg X.prog X.w X.K l kvs)∈Ω2/\RT (atD kvs ks).isSome Ω2)
  (hm:behindInMarks .In b=false:=by first|exact Xf _|with_unfolding_all rfl):VT3 X B (.Compare a [.In] [b] pos) Γ Ω RT:=fun F σ H S pins s I=>
 bz (oO hu) JM JM hm pins s σ H _ I ((h F σ H S).mono fun x H1 ⟨d,Ω1,F1,S1,f1,i1,ks,e1,h1⟩=>(h1 F1 σ H1 S1).mono fun y H2 ⟨d',Ω2,F2,S2,f2,i2,l,kvs,e2,m,q⟩=>by
  subst e1 e2;exact mV S2 (i1.mono f2) i2 m ⟨_,rfl,Ω2,F2,S2,f1.trans f2,q⟩)
theorem eM (hu:X.A.units+64<cLine)(h:V3 X B e Γ Ω fun d Ω1=>V3 X B o Γ Ω1 fun dq Ω2=>∃ l,dq=.raw (.ref l)/\V3 X B i Γ Ω2 fun di Ω3=>∃ ks kvs Ω4,di=kD ks/\Ω3.Perm ((l,Jg X.prog X.w X.K l kvs)::Ω4)/\kvs.length<sizeLine/\W3 X B rest Γ ((l,Jg X.prog X.w X.K l (X9 kvs ks d))::Ω4) E)
  (hs:swapsWithSole [.Subscript o i tpos] e spos.line X.env=pure false:=by rfl) (hw:swappedStores [.Subscript o i tpos] e X.env=pure none:=by rfl) (h1:(assignEach [.Subscript o i tpos] X.env).map (·.2)=[assign (.Subscript o i tpos) X.env]:=by rfl)
  (ha:∀ v,assign (.Subscript o i tpos) X.env v=(do
   let ov ←holding [v] (eval o X.env)
   let iv ←holding [v,ov] (eval i X.env)
   standAt tpos
   holding [v,ov,iv] (setItem ov iv v)
   release [v,ov,iv] []):=by intro _;rfl):W3 X B (.Assign [.Subscript o i tpos] e spos::rest) Γ Ω E:=fun F σ H S pins s I=>
 Y7 (iW JM (gp JM JM (lm hu) ha) hs hw h1) qL pins s σ H _ I ((h F σ H S).mono fun v H1 ⟨d,Ω1,F1,S1,f1,i1,h1⟩=>(h1 F1 σ H1 S1).mono fun y H2 ⟨dq,Ω2,F2,S2,f2,i2,l,e2,h2⟩=>(h2 F2 σ H2 S2).mono fun z H3 ⟨di,Ω3,F3,S3,f3,i3,ks,kvs,Ω4,e3,pm,hz,h3⟩=>by
  subst e2 e3;cases isR i2;have S4:=S3.perm pm.symm;obtain⟨fa,o',ha',ho⟩:=S4.own (l,Jg X.prog X.w X.K l kvs) (by simp);obtain⟨xs,rfl,dp⟩:=ho F3 (yW.refl _);obtain⟨c,_,rfl,_⟩:=isT i3;refine⟨l,c,ks,kvs,xs,d,rfl,rfl,i3.mono S3.fh,ha',dp.mono S3.fh,hz,(i1.mono (f2.trans f3)).mono S3.fh,fun u ru=>?_⟩;exact Y5 (f1.trans (f2.trans f3)) (h3 F3 σ _ (S4.turn fun F5 e5=>⟨_,rfl,DP.put (dp.mono e5) (i3.mono e5) ru (i1.mono (f2.trans (f3.trans e5)))⟩)))
end
section
variable {X:Cx}{Γ:Ga}{a b c:Expr}{pos:Pos}{x y z:Str}
end
section
variable {P:Program}{w:World}{K:W.Frag}{mg:Str->Option Value}{base:Heap}{x q:Str}{st:Stmt}{N ps:List Str}{k n:Nat}{Cc:Addr}
end
end L3
namespace L2
open PySem PySem.Spec PySem.Calls PyProof.Rows
end L2
namespace L3
open PySem PySem.Spec PySem.Calls PyProof.Rows L2
section
variable {X:Cx}{B:Bs}{Γ:Ga}{Ω:Om}{E:E3}{rest:List Stmt}{a b e:Expr}{es:List Expr}{pos p:Pos}{ds gs:List D}{x:Str}{k n:Nat}{R:D->Om->Prop}
end
section
variable {κ:Type}[DecidableEq κ]{α:Type}
def vA (ks:List κ)(xs:List α)(k:κ):Option α:=((ks.zip xs).find? fun p=>decide (p.1=k)).map (·.2)
def pK (ks:List κ)(k:κ):List κ:=if k∈ks then ks else ks++[k]
def pA (ks:List κ)(xs:List α)(k:κ)(v:α):List α:=if k∈ks then (ks.zip xs).map fun p=>if p.1=k then v else p.2 else xs++[v]
theorem Kl {ks:List κ}{xs:List V}{k:κ}:ur (ks.zip xs) k=vA ks xs k:=rfl
theorem bu {k:κ}:∀ {ks:List κ} {xs:List α},ks.length=xs.length->((ks.zip xs).any fun kv=>decide (kv.1=k))=decide (k∈ks)
 |[],_,_=>by simp
 |q::ks,[],h=>by simp at h
 |q::ks,x::xs,h=>by
  rw[yU,Ja,bu (by simpa using h)];by_cases e:q=k
  ·subst e;simp
  ·have e':¬ k=q:=fun z=>e z.symm;simp[e,e']
theorem zip_map {k:κ}{v:α}:∀ {ks:List κ} {xs:List α},ks.length=xs.length->(ks.zip xs).map (fun kv=>if kv.1=k then (kv.1,v) else kv)=ks.zip ((ks.zip xs).map fun p=>if p.1=k then v else p.2)
 |[],_,_=>by simp
 |q::ks,[],h=>by simp at h
 |q::ks,x::xs,h=>by
  rw[yU,yy,yy,yU,zip_map (by simpa using h)];split <;> rfl
theorem UE {k:κ}{v:α}:∀ {ks:List κ} {xs:List α},ks.length=xs.length->ks.zip xs++[(k,v)]=(ks++[k]).zip (xs++[v])
 |[],[],_=>rfl
 |[],_::_,h=>by simp at h
 |_::_,[],h=>by simp at h
 |q::ks,x::xs,h=>by rw[yU,QO,QO,QO,yU,UE (by simpa using h)]
theorem xO {ks:List κ}{xs:List V}{k:κ}{v:V}(h:ks.length=xs.length):Vn (ks.zip xs) k v=(pK ks k).zip (pA ks xs k v):=by
 unfold Vn pK pA;rw[bu h];by_cases q:k∈ks
 ·rw[ye (yO q),ye q,ye q,zip_map h]
 ·rw[yd (by simpa using q),yd q,yd q,UE h]
theorem Xj {ks:List κ}{xs:List α}{k:κ}{v:α}(h:ks.length=xs.length):(pK ks k).length=(pA ks xs k v).length:=by
 unfold pK pA;split
 ·rw[yf,YG];omega
 ·rw[Yh,Yh,h];rfl
theorem WH {K:W.Frag}{F:Hp}{k:κ}:∀ {ks:List κ} {ds:List D} {xs:List V},IsL K F ds xs->(vA ks ds k=none/\vA ks xs k=none)∨∃ d v,vA ks ds k=some d/\vA ks xs k=some v/\Is K F d v
 |[],_,_,_=>.inl ⟨rfl,rfl⟩
 |q::ks,[],_,h=>by
  simp only[IsL] at h;subst h;exact .inl ⟨rfl,rfl⟩
 |q::ks,d::ds,_,h=>by
  simp only[IsL] at h;obtain⟨x,r,rfl,h1,h2⟩:=h;unfold vA;rw[yU,yU,Ys,Ys];by_cases e:q=k
  ·rw[yO e];exact .inr ⟨d,x,rfl,rfl,h1⟩
  ·rw[yC e];exact WH (k:=k) (ks:=ks) h2
theorem gt {K:W.Frag}{F:Hp}{k:κ}{d:D}{v:V}(iv:Is K F d v):∀ {ks:List κ} {ds:List D} {xs:List V},IsL K F ds xs->IsL K F ((ks.zip ds).map fun p=>if p.1=k then d else p.2) ((ks.zip xs).map fun p=>if p.1=k then v else p.2)
 |[],_,_,_=>IsL.nil
 |q::ks,[],_,h=>by
  simp only[IsL] at h;subst h;exact IsL.nil
 |q::ks,e::ds,_,h=>by
  simp only[IsL] at h;obtain⟨x,r,rfl,h1,h2⟩:=h;rw[yU,yU,yy,yy];refine IsL.cons ?_ (gt iv h2);by_cases z:q=k
  ·rw[ye z,ye z];exact iv
  ·rw[yd z,yd z];exact h1
theorem nD {K:W.Frag}{F:Hp}{ks:List κ}{ds:List D}{xs:List V}{k:κ}{d:D}{v:V}(h:IsL K F ds xs)(iv:Is K F d v):IsL K F (pA ks ds k d) (pA ks xs k v):=by
 unfold pA;split
 ·exact gt iv h
 ·exact h.append (IsL.cons iv IsL.nil)
end
def oDk (K:W.Frag)(ks:List Key)(ds:List D):Ow:=fun F o=>∃ xs,o=.dK (ks.zip xs)/\ks.length=xs.length/\IsL K F ds xs
def oDt (K:W.Frag)(ks:List (List Key))(ds:List D):Ow:=fun F o=>∃ xs,o=.dT (ks.zip xs)/\ks.length=xs.length/\IsL K F ds xs
theorem mj {K:W.Frag}{F:Hp}{ks:List Key}{ds:List D}{v:V}(h:Is K F (.dk ks ds) v):∃ a xs o,v=.ref a/\F a=some (.frz o (.dK (ks.zip xs)))/\ks.length=xs.length/\IsL K F ds xs:=by simpa only[Is] using h
theorem Al {K:W.Frag}{F:Hp}{ks:List (List Key)}{ds:List D}{v:V}(h:Is K F (.dt ks ds) v):∃ a xs,v=.ref a/\Rd F a (.dT (ks.zip xs))/\ks.length=xs.length/\IsL K F ds xs:=by simpa only[Is] using h
def kT (k:List Key):List D:=k.map vV
section
variable {X:Cx}{B:Bs}{Γ:Ga}{Ω:Om}{E:E3}{rest:List Stmt}{a b o e f i tg:Expr}{es:List Expr}{d d':D}{ds:List D}{ks:List Key}{kt:List (List Key)}{pos apos cpos:Pos}{R:D->Om->Prop}
theorem kd (hu:X.A.units+64<cLine):X.A.units+1<cLine:=by omega
theorem kI {k:Key}(hu:X.A.units+64<cLine)(ho:P3 X Γ o (.dk ks ds))(hi:P3 X Γ i (vV k))(hv:vA ks ds k=some d)(hs:mI i:=by exact fun _ _=>rfl):P3 X Γ (.Subscript o i pos) d:=
 PE.of (lP (kd hu) ho hi hs) fun σ H Q ⟨F,fh,sl,q⟩=>⟨F,fh,sl,fun x H1 F1 p1 i1=>⟨F1,p1.fh,sl.mono p1.ff,fun y H2 F2 p2 i2=>by
  obtain⟨l,xs,ob,rfl,hl,hz,il⟩:=mj (i1.mono p2.ff);rw[V0 i2];rcases WH (k:=k) (ks:=ks) il with ⟨z,_⟩|⟨d1,v,z1,z2,z3⟩
  ·rw[z] at hv;cases hv
  ·rw[hv] at z1;cases z1;exact⟨l,v,rfl,.inl ⟨_,k,.inr ⟨ob,p2.fh _ _ hl⟩,rfl,by rw[Kl,z2]⟩,q v H2 F2 (p1.trans p2) z3⟩⟩⟩
theorem Xr {k:List Key}{x1}{tpos:Pos}(hu:X.A.units+64<cLine)(ho:P3 X Γ o (.dt kt ds))(he:PL3 X Γ es (kT k))(hf:P3 X Γ f d')(hz:(kT k).length<=sizeLine:=by first|exact YI rfl|(simp only[kT,yf,yI,Qd];decide))(m:M2 X o "get" apos (.Tuple es x1 tpos) f cpos:=by exact⟨rfl,rfl,rfl,rfl⟩):P3 X Γ (.Call (.Attribute o "get" apos) [.Tuple es x1 tpos,f] [] cpos) ((vA kt ds k).getD d'):=
 PE.of (WQ (kd hu) ho (aM he) hf m) fun σ H Q ⟨F,fh,sl,q⟩=>⟨F,fh,sl,fun x H1 F1 p1 i1=>by
  obtain⟨l,xs,rfl,hl,hz',il⟩:=Al i1;have hl1:Rd H1 l (.dT (kt.zip xs)):=JY p1.fh hl;refine⟨l,rfl,.inr ⟨_,hl1⟩,F1,p1.fh,sl.mono p1.ff,fun ys H2 F2 p2 i2=>⟨by rw[i2.len];exact hz,fun t ht=>?_⟩⟩;have pt:=p2.trans (Pur.lay (o:=.tup ys) p2.fh ht);refine⟨_,(Pur.lay p2.fh ht).fh,sl.mono (p1.ff.trans pt.ff),fun u H3 F3 p3 i3=>?_⟩;have et:H3 t=some (.tup (k.map kV)):=by
   have:=VM (ks:=k) i2;rw[←this];exact p3.hh _ _ yN
  refine⟨_,.inr ⟨_,k,t,JY p3.hh (JY pt.hh hl1),rfl,et,rfl⟩,q _ H3 F3 ((p1.trans pt).trans p3) ?_⟩;rw[Kl];rcases WH (k:=k) (ks:=kt) (il.mono (pt.ff.trans p3.ff)) with ⟨z1,z2⟩|⟨d1,v,z1,z2,z3⟩
  ·rw[z1,z2];exact i3
  ·rw[z1,z2];exact z3⟩
theorem Wf (h:P3 X Γ a (.dk ks ds)):I3 X Γ tg a (ks.map vV):=PI.of (bU h) fun σ H Q ⟨F,fh,sl,q⟩=>⟨F,fh,sl,fun v H' F' p i=>by
 obtain⟨l,xs,ob,rfl,hl,hz,il⟩:=mj i;refine⟨l,ob,_,rfl,p.fh _ _ hl,q _ H' F' p fun n F2 H2 e1 e2=>⟨fun d w=>?_,fun w=>⟨e2 _ _ (e1 _ _ hl),by rw[YG];rw[yf] at w;omega⟩⟩⟩;rw[yl] at w;obtain⟨k,hk,rfl⟩:=yX.mp w;have hn:n<ks.length:=(yh.mp hk).1;refine⟨⟨e2 _ _ (e1 _ _ hl),by rw[YG];omega⟩,fun x H3 ⟨z,k',v',hkv,ex⟩=>?_⟩;subst z ex;have:k'=k:=by
  rw[YE] at hkv;rw[hk] at hkv;exact(Option.some.inj hkv.1).symm
 subst this;refine⟨F2,Pur.refl e2,?_⟩;cases k' with
 |inl j=>exact Jw F2
 |inr y=>exact xz F2⟩
theorem wv (r:∀ l,R (.raw (.ref l)) ((l,oDk X.K [] [])::Ω)):V3 X B (.Dict [] [] pos) Γ Ω R:=fun F σ H S pins s I=>
 gU pins s σ H _ I fun l hl=>⟨.raw (.ref l),_,F,S.new (Pur.layOwn S.fh hl) hl (S.fh.free hl) yN (fun F2 _=>⟨[],rfl,rfl,IsL.nil⟩),yW.refl _,Vz F,r l⟩
theorem Xz (r:∀ l,R (.raw (.ref l)) ((l,oDt X.K [] [])::Ω)):V3 X B (.Dict [] [] pos) Γ Ω R:=fun F σ H S pins s I=>
 xF pins s σ H _ I fun l hl=>⟨.raw (.ref l),_,F,S.new (Pur.layOwn S.fh hl) hl (S.fh.free hl) yN (fun F2 _=>⟨[],rfl,rfl,IsL.nil⟩),yW.refl _,Vz F,r l⟩
theorem i9 {k:Key}{l:Addr}(hu:X.A.units+64<cLine)(ho:P3 X Γ o (.raw (.ref l)))(hm:(l,oDk X.K ks ds)∈Ω)(he:P3 X Γ e (vV k))(hf:P3 X Γ f d')(r:R ((vA ks ds k).getD d') Ω)(m:M2 X o "get" apos e f cpos:=by exact⟨rfl,rfl,rfl,rfl⟩):V3 X B (.Call (.Attribute o "get" apos) [e,f] [] cpos) Γ Ω R:=fun F σ H S pins s I=>
 WQ (kd hu) ho he hf m pins s σ H _ I ⟨F,S.fh,S.sl,fun x H1 F1 p1 i1=>by
  cases isR i1;have S1:=S.pur p1;obtain⟨fa,ob,ha,hob⟩:=S1.own _ hm;obtain⟨xs,rfl,hz,il⟩:=hob F1 (yW.refl _);refine⟨l,rfl,.inl ⟨_,.inl ha⟩,F1,p1.fh,S1.sl,fun y H2 F2 p2 i2=>⟨F2,p2.fh,S1.sl.mono p2.ff,fun u H3 F3 p3 i3=>?_⟩⟩;rw[V0 i2];have S3:=(S1.pur p2).pur p3;refine⟨_,.inl ⟨_,k,.inl (p3.hh _ _ (p2.hh _ _ ha)),rfl,rfl⟩,_,Ω,F3,S3,p1.ff.trans (p2.ff.trans p3.ff),?_,r⟩;rw[Kl];rcases WH (k:=k) (ks:=ks) (il.mono (p2.ff.trans p3.ff)) with ⟨z1,z2⟩|⟨d1,v,z1,z2,z3⟩
  ·rw[z1,z2];exact i3
  ·rw[z1,z2];exact z3⟩
theorem wN {spos tpos:Pos}{l:Addr}{k:Key}(hu:X.A.units+64<cLine)(ho:P3 X Γ o (.raw (.ref l)))(hi:P3 X Γ i (vV k))
  (h:V3 X B e Γ Ω fun d Ω1=>∃ ks ds Ω4,Ω1.Perm ((l,oDk X.K ks ds)::Ω4)/\ks.length<sizeLine/\W3 X B rest Γ ((l,oDk X.K (pK ks k) (pA ks ds k d))::Ω4) E)
  (hs:swapsWith e (some (.Subscript o i tpos)) spos.line X.env=pure false:=by rfl):W3 X B (.Assign [.Subscript o i tpos] e spos::rest) Γ Ω E:=fun F σ H S pins s I=>
 Y7 (bT (kd hu) ho hi JM hs) qL pins s σ H _ I ((h F σ H S).mono fun v H1 ⟨d,Ω1,F1,S1,f1,i1,ks,ds,Ω4,pm,hz,h1⟩=>⟨F1,S1.fh,S1.sl,fun x H2 F2 p2 i2=>⟨F2,p2.fh,S1.sl.mono p2.ff,fun y H3 F3 p3 i3=>by
  cases isR i2;rw[V0 i3];have S3:=((S1.pur p2).pur p3).perm pm.symm;obtain⟨fa,ob,ha,hob⟩:=S3.own (l,oDk X.K ks ds) (by simp);obtain⟨xs,rfl,hl,il⟩:=hob F3 (yW.refl _);refine⟨l,_,rfl,W7.k ha (by rw[YG];omega),Y5 (f1.trans (p2.ff.trans p3.ff)) (h1 F3 σ _ ?_)⟩;rw[xO hl];exact S3.turn fun F5 e5=>⟨_,rfl,Xj hl,nD (il.mono e5) (i1.mono (p2.ff.trans (p3.ff.trans e5)))⟩⟩⟩)
theorem Xu {spos tpos kpos:Pos}{x1}{l:Addr}{k:List Key}(hu:X.A.units+64<cLine)(ho:V3 X B o Γ Ω fun dq Ω1=>dq=.raw (.ref l)/\Ω1=Ω)(hi:PL3 X Γ es (kT k))
  (h:P3 X Γ e d) {kt:List (List Key)} {ds:List D} {Ω4:Om} (pm:Ω.Perm ((l,oDt X.K kt ds)::Ω4)) (hz:kt.length<sizeLine) (hw:W3 X B rest Γ ((l,oDt X.K (pK kt k) (pA kt ds k d))::Ω4) E) (hk:(kT k).length<=sizeLine:=by first|exact YI rfl|(simp only[kT,yf,yI,Qd];decide))
  (hs:swapsWith e (some (.Subscript o (.Tuple es x1 kpos) tpos)) spos.line X.env=pure false:=by rfl):W3 X B (.Assign [.Subscript o (.Tuple es x1 kpos) tpos] e spos::rest) Γ Ω E:=fun F σ H S pins s I=>
 Y7 (bT (kd hu) JM (aM hi) h hs) qL pins s σ H _ I ⟨F,S.fh,S.sl,fun v H1 F1 p1 i1=>(ho F1 σ H1 (S.pur p1)).mono fun x H2 ⟨dq,Ω1,F2,S2,f2,i2,e2,e3⟩=>by
  subst e2 e3;cases isR i2;refine⟨F2,S2.fh,S2.sl,fun ys H3 F3 p3 i3=>⟨by rw[i3.len];exact hk,fun t ht=>?_⟩⟩;have pt:=p3.trans (Pur.lay (o:=.tup ys) p3.fh ht);have S3:=(S2.pur pt).perm pm.symm;obtain⟨fa,ob,ha,hob⟩:=S3.own (l,oDt X.K kt ds) (by simp);obtain⟨xs,rfl,hl,il⟩:=hob _ (yW.refl _);have et:upd H3 t (.tup ys) t=some (.tup (k.map kV)):=by
   rw[←VM (ks:=k) i3];exact yN
  refine⟨l,_,rfl,W7.t ha et (by rw[YG];omega),Y5 (p1.ff.trans (f2.trans pt.ff)) (hw _ σ _ ?_)⟩;rw[xO hl];exact S3.turn fun F5 e5=>⟨_,rfl,Xj hl,nD (il.mono e5) (i1.mono (f2.trans (pt.ff.trans e5)))⟩⟩
theorem wF {sts:List Stmt}{i:Nat}{l:Addr}(hΓ:Γ[i]?=some (some (.raw (.ref l))))(h:W3 X B sts (Γ.set i (some (.dk ks ds))) Ω E):W3 X B sts Γ ((l,oDk X.K ks ds)::Ω) E:=fun F σ H S pins s I=>by
 obtain⟨v,e1,e2⟩:=S.sl i _ hΓ;cases isR e2;obtain⟨fa,o0,ha,ho⟩:=S.own (l,oDk X.K ks ds) (by simp);obtain⟨xs,rfl,hl,il⟩:=ho F (yW.refl _);have nin:=(Yc.mp S.nd).1;obtain⟨ob,hob⟩:=(I.hok l _ ha).there;have w:yW F (upd F l (.frz ob (.dK (ks.zip xs)))):=fun b u q=>by rw[yA (yZ q fa)];exact q
 refine Y5 w (h (upd F l (.frz ob (.dK (ks.zip xs)))) σ (upd H l (.frz ob (.dK (ks.zip xs)))) ⟨S.f0.trans w,fun b u q=>?_,fun b q=>?_,fun b u hb q=>?_,(Yc.mp S.nd).2,fun q hq=>S.od q (yc _ hq),fun q hq=>?_,fun j d q=>?_⟩) pins s (I.known ha rfl hob)
 ·by_cases hb:b=l
  ·subst hb;rw[yN] at q ⊢;exact q
  ·rw[yA hb] at q ⊢;exact S.fh _ _ q
 ·by_cases hb:b=l
  ·subst hb;exact(S.od (b,oDk X.K ks ds) (by simp)).elim (fun z=>.inr (.inr z)) fun z=>.inr (.inl z)
  ·rw[yA hb] at q;exact S.fr b q
 ·by_cases z:b=l
  ·subst z;rcases S.od (b,oDk X.K ks ds) (by simp) with y|y
   ·exact absurd y hb
   ·have y':B.H b=none:=y;rw[y'] at q;cases q
  ·rw[yA z];exact S.kp b u hb q
 ·obtain⟨h1,o',h2,h3⟩:=S.own q (yc _ hq);have ne:q.1≠l:=fun e=>nin (yx.mpr ⟨q,hq,e⟩);exact⟨by rw[yA ne];exact h1,o',by rw[yA ne];exact h2,fun F2 e=>h3 F2 (w.trans e)⟩
 ·by_cases hj:i=j
  ·subst hj;rw[Y3] at q;split at q
   ·split at q
    ·cases q;exact⟨_,e1,by simp only[Is];exact⟨l,xs,ob,rfl,yN,hl,il.mono w⟩⟩
    ·cases q
   ·contradiction
  ·rw[YW hj] at q;obtain⟨u,h1,h2⟩:=S.sl j d q;exact⟨u,h1,h2.mono w⟩
theorem pk {sts:List Stmt}{i:Nat}{l:Addr}(hΓ:Γ[i]?=some (some (.raw (.ref l))))(h:W3 X B sts (Γ.set i (some (.dt kt ds))) Ω E):W3 X B sts Γ ((l,oDt X.K kt ds)::Ω) E:=fun F σ H S=>by
 obtain⟨v,e1,e2⟩:=S.sl i _ hΓ;cases isR e2;obtain⟨fa,o0,ha,ho⟩:=S.own (l,oDt X.K kt ds) (by simp);obtain⟨xs,rfl,hl,il⟩:=ho F (yW.refl _);have nin:=(Yc.mp S.nd).1;have w:yW F (upd F l (.dT (kt.zip xs))):=fun b u q=>by rw[yA (yZ q fa)];exact q
 refine Y5 w (h (upd F l (.dT (kt.zip xs))) σ H ⟨S.f0.trans w,fun b u q=>?_,fun b q=>?_,S.kp,(Yc.mp S.nd).2,fun q hq=>S.od q (yc _ hq),fun q hq=>?_,fun j d q=>?_⟩)
 ·by_cases hb:b=l
  ·subst hb;rw[yN] at q;cases q;exact ha
  ·rw[yA hb] at q;exact S.fh _ _ q
 ·by_cases hb:b=l
  ·subst hb;exact(S.od (b,oDt X.K kt ds) (by simp)).elim (fun z=>.inr (.inr z)) fun z=>.inr (.inl z)
  ·rw[yA hb] at q;exact S.fr b q
 ·obtain⟨h1,o',h2,h3⟩:=S.own q (yc _ hq);have ne:q.1≠l:=fun e=>nin (yx.mpr ⟨q,hq,e⟩);exact⟨by rw[yA ne];exact h1,o',h2,fun F2 e=>h3 F2 (w.trans e)⟩
 ·by_cases hj:i=j
  ·subst hj;rw[Y3] at q;split at q
   ·split at q
    ·cases q;exact⟨_,e1,by simp only[Is];exact⟨l,xs,rfl,.inl yN,hl,il.mono w⟩⟩
    ·cases q
   ·contradiction
  ·rw[YW hj] at q;obtain⟨u,h1,h2⟩:=S.sl j d q;exact⟨u,h1,h2.mono w⟩
end
theorem fo:∀ {ks:List Key} {xs:List V} {us:List Value},YN xs us->KV (ks.zip xs) (ks.zip us)
 |[],_,_,_=>.nil
 |k::ks,_,_,.nil=>.nil
 |k::ks,_,_,.cons r t=>by
  rw[yU,yU];exact .cons ⟨rfl,r⟩ (fo t)
section
variable {X:Cx}{Γ:Ga}{ds:List D}{ks:List Key}{pos p pos' p':Pos}{a b:Expr}
theorem cE (hc:X.calm=true)(hm:X.mg "dict" = none)(hg:Gl X "dict")(hm2:X.mg "zip" = none)(hg2:Gl X "zip")(ha:P3 X Γ a (.lst (ks.map vV)))(hb:P3 X Γ b (.lst ds))(hn:ks.Nodup)(hl:ks.length=ds.length)(hz:ks.length<=sizeLine)(hs:starEach [a,b] X.env=[(false,eval a X.env),(false,eval b X.env)]:=by rfl)(hs2:starEach [b] X.env=[(false,eval b X.env)]:=by rfl)
  (he:starEach [.Call (.Name "zip" p') [a,b] [] pos'] X.env=(false,eval (.Call (.Name "zip" p') [a,b] [] pos') X.env)::starEach [] X.env:=by rfl):P3 X Γ (.Call (.Name "dict" p) [.Call (.Name "zip" p') [a,b] [] pos'] [] pos) (.dk ks ds):=by
 intro pins s σ H Q I ⟨F,fh,sl,q⟩;have pl:=yb ha (yb hb yn hs2) (hs.trans (by rw[hs2]));refine wpAny_Call_Name_kw (ZG I hg hm mF (PyProof.Rows.callWith_type1 ?_ he));rw[he];show wpAny _ _ (spliced ((false,eval (.Call (.Name "zip" p') [a,b] [] pos') X.env)::backTo pos (starEach [] X.env))) _ _ s;refine Calls.spliced_cons (Call_ (ZG I hg2 hm2 boot_zip (PyProof.Rows.callWith_type1 (thn (pl pos' pins s σ H (fun vs H'=>∃ F',Pur F H F' H'/\IsL X.K F' [.lst (ks.map vV),.lst ds] vs) I ⟨F,fh,sl,fun vs H' F' pu iv=>⟨F',pu,iv⟩⟩) fun us s1 ⟨vs,H1,I1,r1,q1⟩=>?_) (by rw[hs,hs2]) (by rw[hs2];rfl))));obtain⟨F1,pu,iv⟩:=q1;obtain⟨x,y,rfl,j0,j00⟩:=pw iv;obtain⟨l1,xs,rfl,s1',j1⟩:=JK j0;obtain⟨l2,ys,rfl,s2',j2⟩:=JK j00;have ek:=VM j1;subst ek;cases r1 with
 |cons r rr=>
  cases rr with
  |cons r' rr=>
   cases rr;cases r;cases r';obtain⟨its1,rv1,p1,z1⟩:=I1.list (pu.fh.seq s1');obtain⟨its2,rv2,p2,z2⟩:=I1.list (pu.fh.seq s2');have lt1:l1<s1.heap.objs.size:=by obtain⟨_,e,_⟩:=p1.isList;exact yj e
   have lt2:l2<s1.heap.objs.size:=by obtain⟨_,e,_⟩:=p2.isList;exact yj e
   have L1:=rv1.length;rw[yf] at L1;have L2:=rv2.length;have L3:=j2.len;refine call_zip_2 p1.isList p2.isList fun g g1 g2 g3 g4 g5 sz kp=>?_;have e5:({s1 with heap:=g}:Shared).heap.objs.size=s1.heap.objs.size+5:=sz;have ge:s1.heap.objs.size<=g.objs.size:=by rw[sz];omega
   refine Calls.spliced_nil (wB (knd:=qR X.prog X.w) (xs:=its1.toArray) (ys:=its2.toArray) (ks:=ks) (zipApart_new lt1 lt2) (I1.ok.hd hc) (by simp;omega) (by simp;omega) hn hz (fun j k e=>?_) ⟨_,_,g1,.inl ⟨rfl,rfl⟩,⟨g2,g4,g5,p1.isList.at fun o e=>kp _ o e,p2.isList.at fun o e=>kp _ o e⟩,_,_,g3⟩ fun g' tk d' f'=>?_)
   ·obtain⟨u,e1,e2⟩:=rv1.get (i:=j) (x:=kV k) (by rw[yl,e];rfl);exact⟨u,by simpa using e1,Kr e2⟩
   ·have fresh:H1 g.objs.size=none:=I1.hok.fresh ge;have kp':∀ b o,s1.heap.get? b=some o->g'.get? b=some o:=fun b o e=>by
     have:=yj e;exact f' b o (yQ (Nat.lt_add_right 4 this)) (yQ (Nat.lt_add_right 3 this)) (yQ this) (yQ (Nat.lt_add_right 1 this)) (kp b o e)
    have hsm:(g.objs.size==sysModules)=false:=beq_eq_false_iff_ne.mpr (Ne.symm (yQ (yE I1.big ge)));have I2:Inv X pins σ (upd H1 g.objs.size (.dK (ks.zip ys))) {s1 with heap:=g',toks:=tk}:=I1.laid (t':=tk) kp' ge ⟨by rw[YG];omega,hsm,_,fo rv2,d'⟩;obtain⟨ob,_,_,hob,_⟩:=id d';have I3:=I2.known yN rfl hob;have eu:upd (upd H1 g.objs.size (.dK (ks.zip ys))) g.objs.size (.frz ob (.dK (ks.zip ys)))=upd H1 g.objs.size (.frz ob (.dK (ks.zip ys))):=by
     funext c;by_cases hcc:c=g.objs.size
     ·subst hcc;rw[yN,yN]
     ·rw[yA hcc,yA hcc,yA hcc]
    rw[eu] at I3;refine⟨.ref g.objs.size,_,I3,rfl,q _ _ _ (pu.trans (Pur.lay pu.fh fresh)) ?_⟩;simp only[Is];exact⟨_,ys,ob,rfl,yN,by omega,j2.mono (Pur.lay pu.fh fresh).ff⟩
end
theorem Ke {K:W.Frag}{kt:List (List Key)}{ds:List D}{L:Bool}:∀ F o,oDt K kt ds F o->JO L o=true:=fun F o ⟨xs,e,_⟩=>by subst e;rfl
theorem lF {K:W.Frag}{kt:List Key}{ds:List D}{L:Bool}:∀ F o,oDk K kt ds F o->JO L o=true:=fun F o ⟨xs,e,_⟩=>by subst e;rfl
def bc (K:W.Frag)(B:Bs)(Ω:Om)(Γ Γ':Ga):Prop:=∀ F σ H,Sat K B Γ Ω F σ H->Sl K (zV Ω F H) Γ' σ
theorem IsL.same {K:W.Frag}{F:Hp}{ds:List D}{xs:List V}{j:Nat}{b:Addr}(il:IsL K F ds xs)(hj:ds[j]?=some (.raw (.ref b))):xs.set j (V.ref b)=xs:=by
 obtain⟨x,hx,ix⟩:=il.get hj;rw[isR ix] at hx;refine qe fun i=>?_;rw[Y3];split
 ·rename_i e;subst e;rw[ye (yh.mp hx).1,hx]
 ·rfl
section
variable {K:W.Frag}{B:Bs}{Γ Γ':Ga}{Ω:Om}{C:Addr}{fs:List Str}{ds vs:List D}{kt:List (List Key)}{a b:Addr}{i j:Nat}
theorem xy (h:XX K Ω Γ Γ'):bc K B Ω Γ Γ':=fun F σ H S=>S.lent h
theorem UM (h:bc K B Ω Γ Γ')(hi:Γ[i]?=some (some (.raw (.ref a))))(ha:(a,jG K C fs ds)∈Ω)(hj:ds[j]?=some (.raw (.ref b)))(hb:(b,oDt K kt vs)∈Ω):bc K B Ω Γ (Γ'.set i (some (.obj C fs (ds.set j (.dt kt vs))))):=fun F σ H S n d q=>by
 rw[Y3] at q;by_cases hn:i=n
 ·rw[ye hn] at q;split at q
  ·cases q;subst hn;obtain⟨v,e1,e2⟩:=S.sl i _ hi;cases isR e2;obtain⟨fa,o,h1,h2⟩:=S.own _ ha;obtain⟨dx,xs,rfl,hl,il⟩:=h2 F (yW.refl _);obtain⟨fb,o',h3,h4⟩:=S.own _ hb;obtain⟨ys,rfl,hl',il'⟩:=h4 F (yW.refl _);refine⟨_,e1,?_⟩;have ea:zV Ω F H a=some (.ins C dx (fs.zip xs)):=by unfold zV;rw[ye (yx.mpr ⟨_,ha,rfl⟩)];exact h1
   have eb:zV Ω F H b=some (.dT (kt.zip ys)):=by unfold zV;rw[ye (yx.mpr ⟨_,hb,rfl⟩)];exact h3
   have ib:Is K (zV Ω F H) (.dt kt vs) (.ref b):=by
    simp only[Is];exact⟨b,ys,rfl,.inl eb,hl',il'.mono S.addSame⟩
   have:=(il.mono S.addSame).set j ib;rw[il.same hj] at this;simp only[Is];exact⟨a,dx,xs,rfl,ea,hl,this⟩
  ·cases q
 ·rw[yd hn] at q;exact h F σ H S n d q
theorem Sat.freezeF {F:Hp}{σ:L2.St}{H:Hp}(hj:ds[j]?=some (.raw (.ref b)))(S:Sat K B Γ ((a,jG K C fs ds)::(b,oDt K kt vs)::Ω) F σ H):∃ F',Sat K B Γ ((a,jG K C fs (ds.set j (.dt kt vs)))::Ω) F' σ H/\yW F F':=by
 have S1:Sat K B Γ ((b,oDt K kt vs)::(a,jG K C fs ds)::Ω) F σ H:=S.perm (List.Perm.swap ..);obtain⟨fa,o0,ha,ho⟩:=S1.own (b,oDt K kt vs) (by simp);obtain⟨xs,rfl,hl,il⟩:=ho F (yW.refl _);have nin:=(Yc.mp S1.nd).1;have w:yW F (upd F b (.dT (kt.zip xs))):=fun c u q=>by rw[yA (yZ q fa)];exact q
 have ib:Is K (upd F b (.dT (kt.zip xs))) (.dt kt vs) (.ref b):=by
  simp only[Is];exact⟨b,xs,rfl,.inl yN,hl,il.mono w⟩
 refine⟨upd F b (.dT (kt.zip xs)),⟨S1.f0.trans w,fun c u q=>?_,fun c q=>?_,S1.kp,(Yc.mp S1.nd).2,fun q hq=>?_,fun q hq=>?_,S1.sl.mono w⟩,w⟩
 ·by_cases hb:c=b
  ·subst hb;rw[yN] at q;cases q;exact ha
  ·rw[yA hb] at q;exact S1.fh _ _ q
 ·by_cases hb:c=b
  ·subst hb;exact(S1.od (c,oDt K kt vs) (by simp)).elim (fun z=>.inr (.inr z)) fun z=>.inr (.inl z)
  ·rw[yA hb] at q;exact S1.fr c q
 ·rcases yP.mp hq with z|z
  ·subst z;exact S1.od (a,jG K C fs ds) (by simp)
  ·exact S1.od q (yc _ (yc _ z))
 ·rcases yP.mp hq with z|z
  ·subst z;obtain⟨h1,o',h2,h3⟩:=S1.own (a,jG K C fs ds) (by simp);have ne:a≠b:=fun e=>nin (by simp[e]);refine⟨by rw[yA ne];exact h1,o',h2,fun F2 e=>?_⟩;obtain⟨dx,ys,rfl,hl',il'⟩:=h3 F2 (w.trans e);refine⟨dx,ys,rfl,hl',?_⟩;have:=il'.set j (ib.mono e)
   rwa [il'.same hj] at this
  ·obtain⟨h1,o',h2,h3⟩:=S1.own q (yc _ (yc _ z));have ne:q.1≠b:=fun e=>nin (yx.mpr ⟨q,yc _ z,e⟩);exact⟨by rw[yA ne];exact h1,o',h2,fun F2 e=>h3 F2 (w.trans e)⟩
end
section
variable {X:Cx}{B:Bs}{Γ Γ':Ga}{Ω:Om}{E:E3}{sts:List Stmt}{e tg:Expr}{d:D}{k:Bool}{R:D->Om->Prop}{RT:Bool->Om->Prop}{RL:List D->Om->Prop}{L:Bool}{C:Addr}{fs:List Str}{ds vs:List D}{kt:List (List Key)}{a b:Addr}{j:Nat}{pos:Pos}
theorem bg (h:P3 X Γ' e d)(hl:bc X.K B Ω Γ Γ')(hd:ao L Ω)(hs:Jr L d=true)(r:R d Ω):V3 X B e Γ Ω R:=fun F σ H S=>
 h.we ⟨zV Ω F H,S.addSub,hl F σ H S,fun v H' F' p i=>⟨d,Ω,Ve Ω F',S.pur (S.back p),(S.back p).ff,wI (S.hard hd p) hs i,r⟩⟩
theorem iQ (hj:ds[j]?=some (.raw (.ref b)))(h:W3 X B sts Γ ((a,jG X.K C fs (ds.set j (.dt kt vs)))::Ω) E):W3 X B sts Γ ((a,jG X.K C fs ds)::(b,oDt X.K kt vs)::Ω) E:=fun F σ H S=>by
 obtain⟨F',S',f⟩:=S.freezeF hj;exact Y5 f (h F' σ H S')
theorem oo:P3 X Γ (.Dict [] [] pos) (.dt [] []):=fun pins s σ H Q I ⟨F,fh,sl,q⟩=>
 xF pins s σ H _ I fun l hl=>q _ _ _ (Pur.lay fh hl) (by simp only[Is];exact⟨l,[],rfl,.inl yN,rfl,IsL.nil⟩)
theorem mo (h:V3 X B e Γ Ω fun d Ω1=>∃ ks ds,d=.dk ks ds/\RL (ks.map vV) Ω1):IV3 X B tg e Γ Ω RL:=fun F σ H S pins s I=>
 bU JM pins s σ H _ I ((h F σ H S).mono fun v H1 ⟨d,Ω1,F1,S1,f1,i1,ks,ds,ed,r⟩=>by
  subst ed;obtain⟨l,xs,ob,rfl,hl,hz,il⟩:=mj i1;refine⟨l,ob,_,rfl,S1.fh _ _ hl,_,Ω1,F1,S1,f1,fun n F2 H2 e1 e2=>⟨fun d w=>?_,fun w=>⟨e2 _ _ (e1 _ _ hl),by rw[YG];rw[yf] at w;omega⟩⟩,r⟩;rw[yl] at w;obtain⟨k,hk,rfl⟩:=yX.mp w;have hn:n<ks.length:=(yh.mp hk).1;refine⟨⟨e2 _ _ (e1 _ _ hl),by rw[YG];omega⟩,fun x H3 ⟨z,k',v',hkv,ex⟩=>?_⟩;subst z ex;have:k'=k:=by
   rw[YE] at hkv;rw[hk] at hkv;exact(Option.some.inj hkv.1).symm
  subst this;refine⟨F2,Pur.refl e2,?_⟩;cases k' with
  |inl j=>exact Jw F2
  |inr y=>exact xz F2)
end
def spS {τ:Type}(K:W.Frag)(n:Nat)(om:τ->Om)(C:τ->List D->τ->D->Prop):Sp:=fun vs H Q _=>∃ t ds t' d F,C t ds t' d/\ds.length=n/\yW F H/\IsL K F ds vs/\((om t).map (·.1)).Nodup/\(∀ p∈om t,F p.1=none/\∃ o,H p.1=some o/\∀ F',yW F F'->p.2 F' o)/\
 ∀ v H' F',yW F F'->yW F' H'->(∀ b o,b∉(om t).map (·.1)->H b=some o->H' b=some o)->(∀ b,F' b≠none->F b≠none∨H b=none)->(∀ p∈om t',F' p.1=none/\∃ o,H' p.1=some o/\∀ F2,yW F' F2->p.2 F2 o)->Is K F' d v->Q v H'
theorem spS.len {τ:Type}{K:W.Frag}{n:Nat}{om:τ->Om}{C:τ->List D->τ->D->Prop}{vs:List V}{H:Hp}{Q:VK}{E:XK}(h:spS K n om C vs H Q E):vs.length=n:=by
 obtain⟨t,ds,t',d,F,_,l,_,i,_⟩:=h;rw[i.len,l]
section
variable {τ:Type}{om:τ->Om}{C:τ->List D->τ->D->Prop}
theorem iU {P:Program}{w:World}{K:W.Frag}{mg:Str->Option Value}{base:Heap}{m q:Str}{st:Stmt}{N ps:List Str}{k n:Nat}{Cc:Addr}(d:YD K Cc m q st ps)(S:FnScope N ps (yi st))(hn:ps.length=n)(hm:∀ t ds t' d,C t ds t' d->(om t').map (·.1)=(om t).map (·.1))
  (body:∀ (f:Addr) (cdv:Value) (A:Around) (outer:List Env) (s:Shared) (H:Hp) (E:XK),Room k (A.deeper (envOfC q (yi st) s.heap.objs.size f cdv))->∀ (t:τ) (ds:List D) (t':τ) (r:D),C t ds t' r->∀ B:Bs,
   W3 (cx0 P w K mg base N q st f cdv A outer s H E) B (YT st) (QW N ds) (om t) ⟨fun _ Ω=>r=.non/\Ω=om t',fun r' Ω=>r'=r/\Ω=om t',fun _ _=>False,fun _ _=>False⟩):OkM P w K mg base CX0 (k+1) Cc m ps (spS K n om C):=
 d.ok S (fun vs H Q E h=>(spS.len h).trans hn.symm) fun f cdv A outer s H vs Q E hr h=>⟨_,qL,by
  obtain⟨t,ds,t',r,F,hC,hl,fh,il,nd,own,q⟩:=h;have S0:Sat K ⟨(om t).map (·.1),F,H⟩ (QW N ds) (om t) F (L2.start N vs) H:=
   ⟨yW.refl _,fh,fun _ q=>.inl q,fun _ _ _ e=>e,nd,fun p hp=>.inl (yx.mpr ⟨p,hp,rfl⟩),own,Sl.start il⟩
  have fin:∀ {Ω':Om} {F' H':Hp} {σ':L2.St} {Γ':Ga} {v:V},Ω'=om t'->Sat K (⟨(om t).map (fun p:Addr×Ow=>p.1),F,H⟩:Bs) Γ' Ω' F' σ' H'->Is K F' r v->Q v H':=by
   intro Ω' F' H' σ' Γ' v e S' iv;subst e;refine q v H' F' S'.f0 S'.fh (fun b o hb e=>S'.kp b o hb e) (fun b hb=>?_) (fun p hp=>S'.own p hp) iv;rcases S'.fr b hb with z|z|z
   ·exact .inl z
   ·exact .inr z
   ·have z':b∈(om t).map (·.1):=z;rw[←hm _ _ _ _ hC] at z';obtain⟨p,hp,rfl⟩:=yx.mp z';exact absurd (S'.own p hp).1 hb
  refine qS (D:=E3.to K (⟨(om t).map (fun p:Addr×Ow=>p.1),F,H⟩:Bs) F ⟨fun _ Ω=>r=.non/\Ω=om t',fun r' Ω=>r'=r/\Ω=om t',fun _ _=>False,fun _ _=>False⟩) (D':={nx:=fun _ H'=>Q .non H',rt:=Q}) ?_ ?_ ?_ ?_ (body f cdv A outer s H E hr t ds t' r hC (⟨(om t).map (fun p:Addr×Ow=>p.1),F,H⟩:Bs) F _ H S0)
  ·rintro σ' H' ⟨Γ',Ω',F',S',f',e1,e2⟩;exact fin e2 S' (by rw[e1];exact cm F')
  ·rintro v H' ⟨d',Ω',F',⟨σ',S'⟩,f',i',e1,e2⟩;subst e1;exact fin e2 S' i'
  ·rintro σ' H' ⟨_,_,_,_,_,z⟩;exact z.elim
  ·rintro σ' H' ⟨_,_,_,_,_,z⟩;exact z.elim⟩
variable {X:Cx}{B:Bs}{Γ:Ga}{Ω Ω4:Om}{e o:Expr}{es:List Expr}{d:D}{ds gs:List D}{n k:Nat}{Cc a:Addr}{fs:List Str}{m:Str}{ps:List Str}{pos apos:Pos}{R:D->Om->Prop}{t t':τ}
theorem m7 {pl:Sem Bool}(ok:OkM X.prog X.w X.K X.mg X.base CX0 k Cc m ps (spS X.K n om C))(c:Cls X.K Cc)(hr:Room k X.A)(ho:P3 X Γ o (.raw (.ref a)))(hin:(a,jG X.K Cc fs gs)∈Ω)(hf:m∉fs)(ha:PL3 X Γ (e::es) ds)(hm:(om t').map (·.1)=(om t).map (·.1))(pm:Ω.Perm (om t++Ω4))(hC:C t (.raw (.ref a)::ds) t' d)(r:R d (om t'++Ω4))(hn:ds.length+1=n:=by rfl)
  (hst:starEach (e::es) X.env=(false,eval e X.env)::starEach es X.env:=by rfl) (hpl:(backTo pos (starEach es X.env)).any (·.1)=false:=by rfl)
  (ht:eval (.Call (.Attribute o m apos) (e::es) [] pos) X.env=(do
   let ov ←eval o X.env
   standAt apos.atName
   let (f,first) ←holding [ov] (getMethod ov m pl)
   callWith pos f first (backTo pos (starEach (e::es) X.env)) (backToKw pos (keywordEach [] X.env))):=by rfl):V3 X B (.Call (.Attribute o m apos) (e::es) [] pos) Γ Ω R:=fun F σ H S pins s I=>by
 obtain⟨f,fd,Fn,hM,hb⟩:=ok;refine Wc (pl:=pl) ho c hM Fn hr hb .nil kJ ha hst hpl ht pins s σ H _ I ⟨F,S.fh,S.sl,fun v H1 F1 p1 i1=>?_⟩;cases isR i1;have S1:=S.pur p1;obtain⟨fa,o1,ha1,ho1⟩:=S1.own _ hin;obtain⟨dx,xs,rfl,hl,il⟩:=ho1 F1 (yW.refl _);refine⟨a,dx,_,rfl,ha1,Zh hf,F1,p1.fh,S1.sl,fun us H2 F2 p2 i2=>?_⟩;dsimp only;rw[y9];have S2:=(S1.pur p2).perm pm.symm;have nd2:=S2.nd;rw[yr] at nd2;have nds:=qh.mp nd2;refine⟨t,.raw (.ref a)::ds,t',d,F2,hC,by rw[yI];exact hn,S2.fh,IsL.cons (Vz F2) i2,nds.1,fun p hp=>S2.own p (Yw _ hp),fun v H' F' g1 g2 g3 g4 g5 iv=>⟨d,om t'++Ω4,F',?_,p1.ff.trans (p2.ff.trans g1),iv,r⟩⟩;refine⟨S2.f0.trans g1,g2,fun b hb=>?_,fun b o hb e=>?_,?_,fun p hp=>?_,fun p hp=>?_,S2.sl.mono g1⟩
 ·rcases g4 b hb with z|z
  ·exact S2.fr b z
  ·exact(S2.freeB z).elim (fun w=>.inr (.inl w)) fun w=>.inr (.inr w)
 ·refine g3 b o (fun z=>?_) (S2.kp b o hb e);obtain⟨p,hp,rfl⟩:=yx.mp z;rcases S2.od p (Yw _ hp) with z|z
  ·exact hb z
  ·have z':B.H p.1=none:=z;rw[z'] at e;cases e
 ·rw[yr,hm,←yr];exact S2.nd
 ·rcases qb.mp hp with z|z
  ·have:p.1∈(om t).map (·.1):=by rw[←hm];exact yx.mpr ⟨p,z,rfl⟩
   obtain⟨p',hp',e⟩:=yx.mp this;rw[←e];exact S2.od p' (Yw _ hp')
  ·exact S2.od p (yS _ z)
 ·rcases qb.mp hp with z|z
  ·exact g5 p z
  ·obtain⟨h1,o2,h2,h3⟩:=S2.own p (yS _ z);have nin:p.1∉(om t).map (·.1):=fun y=>nds.2.2 _ y _ (yx.mpr ⟨p,z,rfl⟩) rfl;refine⟨?_,o2,g3 _ _ nin h2,fun F3 e3=>h3 F3 (g1.trans e3)⟩;cases zz:F' p.1 with
   |none=>rfl
   |some u=>
    rcases g4 p.1 (by rw[zz];simp) with y|y
    ·exact absurd h1 y
    ·rw[h2] at y;cases y
end
end L3
namespace My
theorem mul_num (p q:Rat):(p*q).num=p.num / ((p.num.natAbs.gcd q.den:Nat):Int)*(q.num / ((q.num.natAbs.gcd p.den:Nat):Int)):=by
 show(Rat.mul p q).num=_;unfold Rat.mul;simp only[Int.divExact_eq_ediv]
theorem mul_den (p q:Rat):(p*q).den=q.den / p.num.natAbs.gcd q.den*(p.den / q.num.natAbs.gcd p.den):=by
 show(Rat.mul p q).den=_;unfold Rat.mul;simp only[Nat.divExact_eq_div,Nat.mul_comm]
theorem m6 {n1 d1 n2 d2:Nat}(h1:Nat.Coprime n1 d1)(h2:Nat.Coprime n2 d2)(p1:0<d1)(p2:0<d2) :
  Nat.gcd (n1*d2+n2*d1) (d1*d2)=Nat.gcd d1 d2*Nat.gcd (n1*(d2 / Nat.gcd d1 d2)+n2*(d1 / Nat.gcd d1 d2)) (Nat.gcd d1 d2):=by
 have g0:0<Nat.gcd d1 d2:=Nat.gcd_pos_of_pos_left _ p1;generalize hg:Nat.gcd d1 d2=g at *;obtain⟨e1,rfl⟩:g ∣ d1:=hg▸Nat.gcd_dvd_left _ _;obtain⟨e2,rfl⟩:g ∣ d2:=hg▸Nat.gcd_dvd_right _ _;have ce:Nat.Coprime e1 e2:=by
  rw[Nat.gcd_mul_left] at hg;exact Nat.eq_of_mul_eq_mul_left g0 (by rw[hg,Nat.mul_one])
 rw[YK _ g0,YK _ g0];have a1:Nat.Coprime e1 (n1*e2+n2*e1):=by
  show Nat.gcd e1 (n1*e2+n2*e1)=1;rw[Nat.mul_comm n2 e1,Nat.gcd_add_mul_left_right];exact Nat.Coprime.mul_right ((h1.coprime_dvd_right ⟨g,Nat.mul_comm _ _⟩).symm) ce
 have a2:Nat.Coprime e2 (n1*e2+n2*e1):=by
  show Nat.gcd e2 (n1*e2+n2*e1)=1;rw[Nat.add_comm,Nat.mul_comm n1 e2,Nat.gcd_add_mul_left_right];exact Nat.Coprime.mul_right ((h2.coprime_dvd_right ⟨g,Nat.mul_comm _ _⟩).symm) ce.symm
 rw[show n1*(g*e2)+n2*(g*e1)=g*(n1*e2+n2*e1) by grind,show g*e1*(g*e2)=g*(e1*(e2*g)) by grind,Nat.gcd_mul_left,a1.gcd_mul_left_cancel_right,a2.gcd_mul_left_cancel_right]
theorem add_num {p q:Rat}(hp:0<=p.num)(hq:0<=q.num):(p+q).num=(p.num*(q.den / G p.den q.den)+q.num*(p.den / G p.den q.den)) / G (p.num*(q.den / G p.den q.den)+q.num*(p.den / G p.den q.den)) (G p.den q.den)/\
  ((p+q).den:Int)=p.den / G p.den q.den*(q.den / G (p.num*(q.den / G p.den q.den)+q.num*(p.den / G p.den q.den)) (G p.den q.den)):=by
 obtain⟨n1,e1⟩:=Qc hp;obtain⟨n2,e2⟩:=Qc hq;have c1:Nat.Coprime n1 p.den:=by have:=p.reduced;rw[e1] at this;exact this
 have c2:Nat.Coprime n2 q.den:=by have:=q.reduced;rw[e2] at this;exact this
 have d1:=p.den_pos;have d2:=q.den_pos;rw[Rat.num_add,Rat.den_add,e1,e2];generalize p.den=b1 at *;generalize q.den=b2 at *;have gg:=m6 c1 c2 d1 d2;have g0:0<Nat.gcd b1 b2:=Nat.gcd_pos_of_pos_left _ d1;have hG:G (b1:Int) b2=((Nat.gcd b1 b2:Nat):Int):=rfl;have hN:((n1:Int)*b2+n2*b1)=((n1*b2+n2*b1:Nat):Int):=by push_cast;rfl
 have ht:(n1:Int)*((b2:Int) / G b1 b2)+n2*((b1:Int) / G b1 b2)=((n1*(b2 / Nat.gcd b1 b2)+n2*(b1 / Nat.gcd b1 b2):Nat):Int):=by rw[hG];push_cast;rfl
 rw[ht,hG];rw[hN,jk,gg];generalize hgv:Nat.gcd b1 b2=g at *;obtain⟨e1',rfl⟩:g ∣ b1:=hgv▸Nat.gcd_dvd_left _ _;obtain⟨e2',rfl⟩:g ∣ b2:=hgv▸Nat.gcd_dvd_right _ _;rw[YK _ g0,YK _ g0];generalize hl:Nat.gcd (n1*e2'+n2*e1') g=l;have l0:0<l:=hl▸Nat.gcd_pos_of_pos_right _ g0;have hGl:G ((n1*e2'+n2*e1':Nat):Int) (g:Int)=(l:Int):=by rw[←hl];rfl
 obtain⟨m,hm⟩:l ∣ g:=hl▸Nat.gcd_dvd_right _ _;rw[hGl];constructor
 ·rw[show n1*(g*e2')+n2*(g*e1')=g*(n1*e2'+n2*e1') by grind,←qX,←qX,Nat.mul_div_mul_left _ _ g0]
 ·subst hm;rw[←qX,←qX,←Int.natCast_mul];congr 1;rw[YK _ g0,show l*m*e1'*(l*m*e2')=(l*m*l)*(e1'*(m*e2')) by grind,YK _ (Nat.mul_pos g0 l0),show l*m*e2'=l*(m*e2') by grind,YK _ l0]
end My
namespace L3
open PySem PySem.Spec PySem.Calls PyProof.Rows L2
theorem KC {a g:Int}(h:0<=a)(hg:0<g):0<=a / g/\a / g<=a:=⟨Int.ediv_nonneg h (yz hg),Int.ediv_le_self _ h⟩
theorem vk {a b:Int}{n:Nat}(h:0<=b/\b<=a)(ha:a.natAbs<2 ^ n):b.natAbs<2 ^ n:=by omega
theorem Vs {m n:Nat}(h:m<=n):2 ^ m<=2 ^ n:=QH (by decide) h
theorem pG (p q:Rat):sh (p*q)=D.tup [D.int ((Rat.divInt p.num q.den).num*(Rat.divInt q.num p.den).num),D.int (((Rat.divInt p.num q.den).den:Int)*((Rat.divInt q.num p.den).den:Int))]:=by
 unfold sh;rw[My.mul_num,My.mul_den,←My.num_share (My.den_pos' q),←My.num_share (My.den_pos' p),←My.den_share (My.den_pos' q),←My.den_share (My.den_pos' p),Int.natCast_mul,qX,qX,
  y7 _ (yz (My.G_pos (My.den_pos' q))),y7 _ (yz (My.G_pos (My.den_pos' p))),y7 _ (yz (My.G_pos (My.den_pos' q))),y7 _ (yz (My.G_pos (My.den_pos' p)))]
 rfl
theorem VW {q:Rat}(h:0<q):q⁻¹.num=(q.den:Int)/\(q⁻¹.den:Int)=q.num:=by
 have hp:=My.q_num_pos h;rw[Rat.num_inv,Rat.den_inv];constructor
 ·rw[Int.sign_eq_one_of_pos hp,Int.one_mul]
 ·rw[yd (by omega)];omega
theorem pV {q:Rat}(h:0<q):sh q⁻¹=D.tup [D.int (q.den:Int),D.int q.num]:=by
 unfold sh;rw[(VW h).1,(VW h).2]
theorem oB {q:Rat}{n:Nat}(h:0<q)(s:Sz n q):Sz n q⁻¹:=by
 have e:=VW h;have hp:=My.q_num_pos h;obtain⟨s1,s2⟩:=s;refine⟨?_,?_⟩
 ·rw[e.1];exact s2
 ·have:=e.2;omega
def kf (K:W.Frag):Sp:=fun vs H Q _=>∃ (a:Addr) (ns:List Int),vs=[.ref a]/\SqL K H a (ns.map V.int)/\ns.length<=63/\∀ H',Q (.bl true) H'
theorem mD {P:Program}{w:World}{K:W.Frag}{mg:Str->Option Value}{base:Heap}{f:Addr}{fd:FuncData}{st:Stmt}{N:List Str}{k:Nat}{x:Str}(F:Fun K "law" "law" st f fd)(S:FnScope N [x] (yi st))
  (body:∀ (cdv:Value) (A:Around) (outer:List Env) (s:Shared) (H:Hp) (E:XK),Room k (A.deeper (envOfC "law" (yi st) s.heap.objs.size f cdv))->∀ (ns:List Int),ns.length<=63->∀ B:Bs,B.M=[]->
   W3 (cx0 P w K mg base N "law" st f cdv A outer s H E) B (YT st) (QW N [.scr ns]) [] ⟨fun _ _=>False,fun r _=>r=.bl true,fun _ _=>False,fun _ _=>False⟩):FnOk P w K mg base CX0 (k+1) f fd [x] (kf K):=by
 refine F.ok S (fun vs H Q E h=>?_) fun cdv A outer s H vs Q E hr h=>⟨_,qL,?_⟩
 ·obtain⟨a,ns,rfl,_⟩:=h;rfl
 ·obtain⟨a,ns,rfl,hS,hlen,q⟩:=h;have il:IsL K H [.scr ns] [.ref a]:=IsL.cons (by simp only[Is];exact⟨a,rfl,hS⟩) IsL.nil;refine qS (D:=E3.to K ⟨[],H,H⟩ H ⟨fun _ _=>False,fun r _=>r=.bl true,fun _ _=>False,fun _ _=>False⟩) (D':={nx:=fun _ H'=>Q .non H',rt:=Q}) ?_ ?_ ?_ ?_ (body cdv A outer s H E hr ns hlen ⟨[],H,H⟩ rfl H _ H (Sat.entry (yW.refl _) il))
  ·rintro σ' H' ⟨_,_,_,_,_,z⟩;exact z.elim
  ·rintro v H' ⟨r,Ω',F',⟨σ',S'⟩,f',iv,rfl⟩;rw[isB iv];exact q H'
  ·rintro σ' H' ⟨_,_,_,_,_,z⟩;exact z.elim
  ·rintro σ' H' ⟨_,_,_,_,_,z⟩;exact z.elim
theorem ni {K:W.Frag}{H:Hp}{a:Addr}{ns:List Int}(h:ns.length<=63)(hS:SqL K H a (ns.map V.int)):kf K [.ref a] H (fun v _=>v=.bl true) fun _ _ _=>False:=⟨a,ns,rfl,hS,h,fun _=>rfl⟩
theorem mM {ds:List D}:pln (.lst ds)=va ds:=by rw[pln]
theorem KU:∀ {ds:List D},(∀ d∈ds,pln d=true)->va ds=true
 |[],_=>by rw[va]
 |d::ds,h=>by rw[va,h d (by simp),KU fun e he=>h e (yc _ he)];rfl
theorem pI {q:Rat}:pln (sh q)=true:=rfl
theorem Kh {k:Nat}:∀ {ds:List D},(∀ d∈ds,dep d<=k)->Zc ds<=k
 |[],_=>by rw[Zc];exact qU _
 |d::ds,h=>by
  rw[Zc];exact Nat.max_le.mpr ⟨h d (by simp),Kh fun e he=>h e (yc _ he)⟩
theorem mQ {q:Rat}:dep (sh q)<=1:=by
 show max 0 (max 0 0)+1<=1;decide
mutual
theorem xK:∀ {d:D},pln d=true->kin d d=true
 |.non,_=>rfl
 |.bl _,_=>rfl
 |.int _,_=>rfl
 |.str _,_=>rfl
 |.tup a,h=>by rw[kin];rw[pln] at h;exact V5 h
 |.lst a,h=>by rw[kin];rw[pln] at h;exact V5 h
 |.raw _,h=>by simp[pln] at h
 |.dk _ _,h=>by simp[pln] at h
 |.dt _ _,h=>by simp[pln] at h
 |.obj _ _ _,h=>by simp[pln] at h
 |.exc _,h=>by simp[pln] at h
 |.scr _,h=>by simp[pln] at h
theorem V5:∀ {d:List D},va d=true->J1 d d=true
 |[],_=>rfl
 |a::as,h=>by
  rw[va,Yr] at h;rw[J1,xK h.1,V5 h.2];rfl
end
theorem xg {K:W.Frag}{h:Heap}{mg:Str->Option Value}(X:K.In h)(G:h.Ns mainGlobals mg){x:Str}{l:Addr}{od:Option Addr}{i j:Int}{t u:Tok}{n:Nat}{sl:Array (Option Value)}(a:W.nsIn K mainGlobals x=some (some (.ref l)))
  (lk:K.lookup l=some ⟨.type "tuple", od,.seq #[.int i t,.int j u] n,sl⟩):ql K mg x (.tup [.int i,.int j]):=
 ⟨.ref l,.ref l,W.mg_of X G a,rfl,fun F=>Is.tupI (xs:=[.int i,.int j]) (.inr ⟨_,_,_,lk,rfl,rfl,by show 2<=sizeLine;decide,.cons ⟨_,rfl⟩ (.cons ⟨_,rfl⟩ .nil)⟩) (IsL.cons (Jw F) (IsL.cons (Jw F) IsL.nil))⟩
def lt (i:Nat):Nat:=if i<26 then 97+i else 65+(i - 26)
def fE:Str:="abcdefghijklmnopqrstuvwxyzABCDEFGHIJKLMNOPQRSTUVWXYZ"
theorem ia:∀ i:Fin 52,fE.cps.toList[i.val]?=some (lt i.val):=by decide +kernel
def vY (n:Nat):Bool:=(decide (97<=n)&&decide (n<=122))||(decide (65<=n)&&decide (n<=90))
theorem oZ {i:Nat}(h:i<52):vY (lt i)=true:=by
 unfold lt vY;split <;> simp <;> omega
theorem pZ {i j:Nat}(hi:i<52)(hj:j<52)(h:lt i=lt j):i=j:=by
 unfold lt at h;split at h <;> split at h <;> omega
def kK (x:Str):Prop:=1<=x.cps.size/\x.cps.size<=8/\∀ c∈x.cps.toList,vY c=true
def szC (c:Int):Nat:=(1+c % 8).toNat
def atC (c:Int):Nat:=(c / 8 % (1+c % 8)).toNat
def bsC (c:Int):Nat:=(c / 64 % 52).toNat
def stp (c:Int)(k p:Nat):Nat:=bsC c+7*p+if p=atC c then k else 0
def v0 (c:Int)(k n:Nat):List Nat:=(List.range n).map fun p=>lt (stp c k p % 52)
def Qa (c:Int)(k:Nat):Str:=⟨(v0 c k (szC c)).toArray⟩
theorem aC (c:Int):1<=szC c/\szC c<=8:=by unfold szC;omega
theorem pL (c:Int):((szC c:Nat):Int)=1+c % 8:=by unfold szC;omega
theorem oa (c:Int):atC c<szC c:=by
 have h:0<1+c % 8:=by omega
 have h1:=Int.emod_lt_of_pos (c / 8) h;have h2:=Int.emod_nonneg (c / 8) (show 1+c % 8≠0 by omega);unfold atC szC;omega
theorem gC (c:Int):((atC c:Nat):Int)=c / 8 % (1+c % 8):=by
 have h2:=Int.emod_nonneg (c / 8) (show 1+c % 8≠0 by omega);unfold atC;omega
theorem eS (c:Int):((bsC c:Nat):Int)=c / 64 % 52:=by unfold bsC;omega
theorem uq {c:Int}{k n:Nat}:(v0 c k n).length=n:=by unfold v0;simp
theorem dU {c:Int}{k n:Nat}:v0 c k (n+1)=v0 c k n++[lt (stp c k n % 52)]:=by unfold v0;rw[QA,yr];rfl
theorem gf (c:Int)(k:Nat):kK (Qa c k):=by
 have:=aC c;refine⟨?_,?_,fun x hx=>?_⟩
 ·unfold Qa;simp[uq];omega
 ·unfold Qa;simp[uq];omega
 ·unfold Qa v0 at hx;simp only[yx,jL] at hx;obtain⟨p,_,rfl⟩:=hx;exact oZ (Nat.mod_lt _ (by decide))
theorem wO {c:Int}{j k:Nat}(hj:j<52)(hk:k<52)(h:Qa c j=Qa c k):j=k:=by
 have e:v0 c j (szC c)=v0 c k (szC c):=by
  unfold Qa at h;injection h with h;simpa using h
 have ha:=oa c;have e2:(v0 c j (szC c))[atC c]?=(v0 c k (szC c))[atC c]?:=by rw[e]
 unfold v0 at e2;rw[yl,yl,qO ha] at e2;simp only[Option.map_some,Option.some.injEq] at e2;have e3:=pZ (Nat.mod_lt _ (by decide)) (Nat.mod_lt _ (by decide)) e2;unfold stp at e3;rw[ye rfl,ye rfl] at e3;omega
abbrev yL:=Str×List Str×Rat
def QG (acc:List Str)(r:yL):List Str:=if r.1∈acc then acc else acc++[r.1]
def y8 (rs:List yL):List Str:=rs.foldl QG []
def UX (h:Str)(t:Rat)(r:yL):Rat:=if r.1=h then t+r.2.2 else t
def zF (h:Str)(rs:List yL):Rat:=rs.foldl (UX h) 0
inductive Live (hs:List Str)(rs:List yL):Str->Prop
 |mk (r:yL) (hr:r∈rs) (hb:∀ x∈r.2.1,x∈hs->Live hs rs x):Live hs rs r.1
def Q9 (hs L b:List Str):Bool:=b.all fun x=>decide (x∈L)||!decide (x∈hs)
def jY (rs:List yL)(hs L:List Str)(h:Str):Bool:=rs.any fun r=>decide (r.1=h)&&Q9 hs L r.2.1
def j8 (hs:List Str)(rs:List yL)(L:List Str):List Str:=hs.filter (jY rs hs L)
open Classical in
noncomputable def Jk (hs:List Str)(rs:List yL):List Str:=hs.filter fun h=>decide (Live hs rs h)
theorem XM {hs L b:List Str}:Q9 hs L b=true ↔ ∀ x∈b,x∈hs->x∈L:=by
 unfold Q9;rw[List.all_eq_true];refine forall_congr' fun x=>forall_congr' fun _=>?_;by_cases h1:x∈L <;> by_cases h2:x∈hs <;> simp[h1,h2]
theorem vj {rs:List yL}{hs L:List Str}{h:Str}:jY rs hs L h=true ↔ ∃ r∈rs,r.1=h/\∀ x∈r.2.1,x∈hs->x∈L:=by
 unfold jY;simp only[List.any_eq_true,Yr,YZ,XM]
theorem aq {hs:List Str}{rs:List yL}{L L':List Str}(h:∀ x∈L,x∈L'):∀ x∈j8 hs rs L,x∈j8 hs rs L':=fun x hx=>by
 unfold j8 at hx ⊢;rw[Yj,vj] at hx ⊢;obtain⟨h1,r,hr,e,hb⟩:=hx;exact⟨h1,r,hr,e,fun y hy hh=>h y (hb y hy hh)⟩
def K6 (hs:List Str)(rs:List yL)(L:List Str):Prop:=(∃ p:Str->Bool,L=hs.filter p)/\(∀ x∈L,x∈j8 hs rs L)/\∀ x∈L,Live hs rs x
theorem dF {hs:List Str}{rs:List yL}:K6 hs rs []:=⟨⟨fun _=>false,by simp⟩,fun x hx=>by simp at hx,fun x hx=>by simp at hx⟩
theorem XZ {hs:List Str}{rs:List yL}{L:List Str}(h:K6 hs rs L):K6 hs rs (j8 hs rs L):=by
 refine⟨⟨_,rfl⟩,aq h.2.1,fun x hx=>?_⟩;unfold j8 at hx;rw[Yj,vj] at hx;obtain⟨h1,r,hr,e,hb⟩:=hx;subst e;exact .mk r hr fun y hy hh=>h.2.2 y (hb y hy hh)
theorem U9 {α:Type}{p q:α->Bool}:∀ {l:List α},(∀ x∈l,p x=true->q x=true)->(l.filter p).length<=(l.filter q).length/\((l.filter q).length<=(l.filter p).length->l.filter p=l.filter q)
 |[],_=>by simp
 |a::l,h=>by
  have ih:=U9 (p:=p) (q:=q) (l:=l) fun x hx=>h x (yc _ hx);have ha:=h a (by simp);cases hp:p a with
  |true=>
   rw[Yl hp,Yl (ha hp),yI,yI];exact⟨by omega,fun z=>by rw[ih.2 (by omega)]⟩
  |false=>
   rw[Yp (by simp[hp])];cases hq:q a with
   |true=>
    rw[Yl hq,yI];exact⟨by omega,fun z=>by omega⟩
   |false=>
    rw[Yp (by simp[hq])];exact ih
theorem xk {hs:List Str}{rs:List yL}{L:List Str}(h:K6 hs rs L):L.length<=(j8 hs rs L).length/\((j8 hs rs L).length<=L.length->L=j8 hs rs L):=by
 obtain⟨⟨p,rfl⟩,h2,_⟩:=h;refine U9 fun x hx hp=>?_;have:=h2 x (Yj.mpr ⟨hx,hp⟩);unfold j8 at this;exact(Yj.mp this).2
open Classical in
theorem cZ {hs:List Str}{rs:List yL}{L:List Str}(h:K6 hs rs L)(e:(j8 hs rs L).length<=L.length)(hh:∀ r∈rs,r.1∈hs):j8 hs rs L=Jk hs rs:=by
 have e':=(xk h).2 e;have all:∀ x,Live hs rs x->x∈L:=fun x hx=>by
  induction hx with
  |mk r hr _ ih=>
   rw[e'];unfold j8;rw[Yj,vj];exact⟨hh r hr,r,hr,rfl,ih⟩
 unfold Jk;rw[←e'];obtain⟨⟨p,hp⟩,_,h3⟩:=h;rw[hp] at all h3 ⊢;refine List.filter_congr fun x hx=>?_;rw[Yq,YZ];exact⟨fun q=>h3 x (Yj.mpr ⟨hx,q⟩),fun q=>(Yj.mp (all x q)).2⟩
theorem WY {acc:List Str}{r:yL}{x:Str}:x∈QG acc r ↔ x∈acc∨x=r.1:=by
 unfold QG;split
 ·rename_i h;exact⟨.inl,fun z=>z.elim id fun e=>e▸h⟩
 ·simp
theorem U6:∀ {rs:List yL} {acc:List Str} {x:Str},x∈rs.foldl QG acc ↔ x∈acc∨∃ r∈rs,x=r.1
 |[],acc,x=>by simp
 |r::rs,acc,x=>by
  rw[YQ,U6,WY];simp only[yP,exists_eq_or_imp,or_assoc]
theorem XU {rs:List yL}{x:Str}:x∈y8 rs ↔ x∈rs.map (·.1):=by
 unfold y8;rw[U6];simp only[qc,false_or,yx];exact⟨fun⟨r,h1,h2⟩=>⟨r,h1,h2.symm⟩,fun⟨r,h1,h2⟩=>⟨r,h1,h2.symm⟩⟩
section
variable {X:Cx}{B:Bs}{Γ:Ga}{Ω:Om}{a l e:Expr}{pos p2:Pos}{R:D->Om->Prop}
end
section
variable {X:Cx}{B:Bs}{Γ:Ga}{Ω:Om}{E:E3}{rest body:List Stmt}{e c:Expr}{pos:Pos}
theorem zL (h:V3 X B e Γ Ω fun _ Ω1=>W3 X B rest Γ Ω1 E)(hs:swapsWith e none pos.line X.env=pure false:=by rfl):W3 X B (.Expr e pos::rest) Γ Ω E:=fun F σ H S pins s I=>
 Y7 (VL JM hs) qL pins s σ H _ I ((h F σ H S).mono fun v H1 ⟨d,Ω1,F1,S1,f1,i1,h1⟩=>Y5 f1 (h1 F1 σ H1 S1))
theorem W3.nx {J N:Ga->Om->Prop}{sts:List Stmt}(h:W3 X B sts Γ Ω {E with nx:=J})(i:∀ Γ Ω,J Γ Ω->N Γ Ω):W3 X B sts Γ Ω {E with nx:=N}:=fun F σ H S=>
 qS (D:=E3.to X.K B F {E with nx:=J}) (D':=E3.to X.K B F {E with nx:=N}) (fun _ _ ⟨Γ',Ω',F',S',f',n⟩=>⟨Γ',Ω',F',S',f',i _ _ n⟩) (fun _ _ q=>q) (fun _ _ q=>q) (fun _ _ q=>q) (h F σ H S)
theorem sH {k:Bool}{a b:List Stmt}(J:Ga->Om->Prop)(hc:PT3 X Γ c k)(ht:k=true->W3 X B a Γ Ω {E with nx:=J})(hf:k=false->W3 X B b Γ Ω {E with nx:=J})(hr:∀ Γ Ω,J Γ Ω->W3 X B rest Γ Ω E):W3 X B (.If c a b pos::rest) Γ Ω E:=
 JX hc (fun h=>(ht h).nx hr) fun h=>(hf h).nx hr
theorem K7 {k k':Bool}(h:PT3 X Γ c k)(q:k=k'):eG X Γ [c] k':=q▸v8 h
end
def qB (b:List Str):D:=.tup (b.map D.str)
def Qo (r:yL):D:=.tup [.str r.1,qB r.2.1,sh r.2.2]
def Yi (xs:List Str):List D:=xs.map D.str
def yG (rs:List yL):List D:=rs.map Qo
theorem qD {xs:List Str}:(Yi xs).length=xs.length:=yf _
theorem YX {rs:List yL}:(yG rs).length=rs.length:=yf _
theorem jI {xs:List Str}{i:Nat}{d:D}(h:(Yi xs)[i]?=some d):∃ x,xs[i]?=some x/\d=.str x:=by
 unfold Yi at h;rw[yl] at h;obtain⟨x,h1,h2⟩:=yX.mp h;exact⟨x,h1,h2.symm⟩
theorem qF {rs:List yL}{i:Nat}{d:D}(h:(yG rs)[i]?=some d):∃ r,rs[i]?=some r/\d=Qo r:=by
 unfold yG at h;rw[yl] at h;obtain⟨x,h1,h2⟩:=yX.mp h;exact⟨x,h1,h2.symm⟩
theorem Yo {α:Type}{l:List α}{i:Nat}{x:α}(h:l[i]?=some x):l.take (i+1)=l.take i++[x]:=by
 rw[List.take_succ,h];rfl
theorem m4 {x y:Str}(h:D.str x=D.str y):x=y:=by injection h
theorem bK {x y:Str}:Y2 (.str x) (.str y)=decide (x=y):=by
 by_cases h:x=y
 ·subst h;rw[Zg (by rfl)];simp
 ·rw[bC (fun z=>h (m4 z)),yC h]
theorem zI {x:Str}{L:List Str}:inD (.str x) (Yi L)=decide (x∈L):=by
 unfold inD Yi;rw[List.any_map,Yq,List.any_eq_true,YZ];constructor
 ·rintro⟨y,hy,e⟩;have e':Y2 (.str y) (.str x)=true:=e;rw[bK,YZ] at e';exact e'▸hy
 ·intro h;exact⟨x,h,by show Y2 (.str x) (.str x)=true;rw[bK];simp⟩
theorem Zk {x:Str}{L:List Str}:∀ e∈Yi L,kin e (.str x)=true/\dep e<=60:=fun e he=>by
 unfold Yi at he;obtain⟨y,_,rfl⟩:=yx.mp he;exact⟨rfl,qU _⟩
theorem ic {L:List Str}:va (L.map D.str)=true:=KU fun d hd=>by
 obtain⟨y,_,rfl⟩:=yx.mp hd;rfl
theorem fx {b:List Str}:pln (qB b)=true:=by unfold qB;rw[pln];exact ic
theorem lg {b:List Str}:Zc (b.map D.str)=0:=Nat.le_zero.mp (Kh fun d hd=>by
 obtain⟨y,_,rfl⟩:=yx.mp hd;exact yo 0)
theorem gh {b:List Str}:dep (qB b)<=1:=by unfold qB;rw[dep,lg];exact yo _
theorem Ku {L:Bool}:∀ {xs:List Str},Zr L (Yi xs)=true
 |[]=>rfl
 |x::xs=>by
  show(Jr L (D.str x)&&Zr L (Yi xs))=true;rw[Ku];rfl
def uX (r:yL):List K2:=[.inl (.inr r.1),.inr (r.2.1.map Sum.inr)]
theorem bG (r:yL):D.tup [.str r.1,qB r.2.1]=kD (uX r):=by
 unfold kD uX qB;simp only[yy,QB,k2D,vV,Yx];rfl
theorem bH:∀ {a b:List Str},a.map (Sum.inr:Str->Key)=b.map Sum.inr->a=b
 |[],[],_=>rfl
 |[],_::_,h=>by simp at h
 |_::_,[],h=>by simp at h
 |x::a,y::b,h=>by
  simp only[yy,List.cons.injEq,Sum.inr.injEq] at h;rw[h.1,bH h.2]
theorem fB {r s:yL}(h:uX r=uX s):(r.1,r.2.1)=(s.1,s.2.1):=by
 unfold uX at h;simp only[List.cons.injEq,Sum.inl.injEq,Sum.inr.injEq,and_true] at h;rw[h.1,bH h.2]
def KJ (rs:List yL):List (List K2×D):=rs.map fun r=>(uX r,.bl true)
theorem xu {rs:List yL}{r:yL}(h:(r.1,r.2.1)∉rs.map fun r=>(r.1,r.2.1)):atD (KJ rs) (uX r)=none:=by
 unfold atD KJ;rw[Option.map_eq_none_iff,List.find?_eq_none];intro p hp;obtain⟨q,hq,rfl⟩:=yx.mp hp;simp only[YZ];intro z;exact h (yx.mpr ⟨q,hq,fB z⟩)
theorem fS {rs:List yL}{r:yL}(h:(r.1,r.2.1)∉rs.map fun r=>(r.1,r.2.1)):X9 (KJ rs) (uX r) (.bl true)=KJ (rs++[r]):=by
 unfold X9;rw[xu h];unfold KJ;rw[yr];rfl
theorem v6 {α β:Type}{f:α->β}{l:List α}{i:Nat}{x:α}(hn:(l.map f).Nodup)(h:l[i]?=some x):f x∉(l.take i).map f:=fun z=>by
 obtain⟨y,hy,e⟩:=yx.mp z;obtain⟨j,hj,rfl⟩:=List.getElem_of_mem hy;rw[y6] at hj;have hj1:j<l.length:=by omega
 have hi:i<l.length:=(yh.mp h).1;rw[List.getElem_take] at e;have e1:(l.map f)[j]?=(l.map f)[i]?:=by
  rw[yl,yl,h,ym hj1];simp[e]
 have:=(List.getElem?_inj (by rw[yf];exact hj1) hn).mp e1;omega
theorem cz {X:Cx}{Γ:Ga}{a b c:Expr}{pos:Pos}{i j k:Int}(ha:P3 X Γ a (.int i))(hb:P3 X Γ b (.int j))(hc:P3 X Γ c (.int k))(hm:lastMarks [.LtE,.LtE] [b,c]=false:=by with_unfolding_all rfl):P3 X Γ (.Compare a [.LtE,.LtE] [b,c] pos) (.bl (decide (i<=j)&&decide (j<=k))):=
 PE.of (WN nH nH ha hb hc hm) fun σ H Q zq=>by
  obtain⟨F,fh,sl,q⟩:=zq;refine⟨F,fh,sl,fun v1 H1 F1 p1 i1=>⟨F1,p1.fh,sl.mono p1.ff,fun v2 H2 F2 p2 i2=>⟨i,j,isI i1,isI i2,decide (i<=j),rfl,?_⟩⟩⟩;cases e:decide (i<=j) with
  |true=>
   rw[ye rfl];exact⟨F2,p2.fh,sl.mono (p1.ff.trans p2.ff),fun v3 H3 F3 p3 i3=>⟨j,k,isI i2,isI i3,q _ _ _ ((p1.trans p2).trans p3) (by rw[e];exact Wk F3)⟩⟩
  |false=>
   rw[yd yw];exact q _ _ _ (p1.trans p2) (by rw[e];exact Wk F2)
open Classical in
noncomputable def wC (x:Str):Bool:=decide (kK x)
theorem uy {x:Str}:wC x=true ↔ kK x:=@decide_eq_true_iff _ (Classical.propDecidable _)
noncomputable def nl:List D->D->Prop:=fun ds d=>∃ x:Str,ds=[.str x]/\d=.bl (wC x)/\x.cps.size<=100/\x.cps.all (·<128)=true
def gj:List D->D->Prop:=fun ds d=>∃ c:Nat,ds=[.str ⟨#[c]⟩]/\d=.bl (vY c)
def gi:List D->D->Prop:=fun ds d=>∃ x:Str,ds=[.str x]/\d=.non/\kK x
def XH (r:yL):Prop:=kK r.1/\1<=r.2.1.length/\r.2.1.length<=4/\(∀ x∈r.2.1,kK x)/\0<r.2.2
def rF:List D->D->Prop:=fun ds d=>∃ r:yL,ds=[Qo r]/\d=.non/\XH r
def mY:List D->D->Prop:=fun ds d=>∃ rs:List yL,ds=[.lst (yG rs)]/\d=.non/\1<=rs.length/\rs.length<=30/\(∀ r∈rs,XH r)/\(rs.map fun r=>(r.1,r.2.1)).Nodup
def lN:List D->D->Prop:=fun ds d=>∃ (x:Str) (hs:List Str),ds=[.str x,.lst (Yi hs)]/\d=.non/\x∈hs
def rE:List D->D->Prop:=fun ds d=>∃ (hs:List Str) (rs:List yL),ds=[.lst (Yi hs),.lst (yG rs)]/\d=.non/\rs.length<=30/\(∀ h∈hs,zF h rs=1)/\∀ r∈rs,0<=r.2.2/\Sz 1000 r.2.2
def lG:List D->D->Prop:=fun ds d=>∃ rs:List yL,ds=[.lst (yG rs)]/\d=.lst (Yi (y8 rs))/\rs.length<=30
def eR:List D->D->Prop:=fun ds d=>∃ (hs:List Str) (rs:List yL),ds=[.lst (Yi hs),.lst (yG rs)]/\d=.lst (Yi (Jk hs rs))/\rs.length<=30/\hs.length<=30/\(∀ r∈rs,r.1∈hs)/\∀ r∈rs,r.2.1.length<=4
def dg:List D->D->Prop:=fun ds d=>∃ (h:Str) (rs:List yL) (hs L:List Str),ds=[.str h,.lst (yG rs),.lst (Yi hs),.lst (Yi L)]/\d=.bl (jY rs hs L h)/\rs.length<=30/\∀ r∈rs,r.2.1.length<=4
def au:List D->D->Prop:=fun ds d=>∃ b hs L:List Str,ds=[qB b,.lst (Yi hs),.lst (Yi L)]/\d=.bl (Q9 hs L b)/\b.length<=4
def gF:List Str:=["first", "kept_rules", "kept_heads", "kept_live"]
noncomputable def gDs (st:Str)(rs:List yL):List D:=[.str st,.lst (yG rs),.lst (Yi (y8 rs)),.lst (Yi (Jk (y8 rs) rs))]
noncomputable def gD (C:Addr)(st:Str)(rs:List yL):D:=.obj C gF (gDs st rs)
structure GV (st:Str)(rs:List yL):Prop where
 l1:1<=rs.length
 l2:rs.length<=30
 ok:∀ r∈rs,XH r
 nd:(rs.map fun r=>(r.1,r.2.1)).Nodup
 st:st∈y8 rs
 one:∀ h∈y8 rs,zF h rs=1
 sz:∀ r∈rs,Sz 1000 r.2.2
def ng:List D->List Str×List D->Prop:=fun ds r=>∃ (st:Str) (rs:List yL),ds=[.str st,.lst (yG rs)]/\r=(gF,gDs st rs)/\GV st rs
def gx (C:Addr):List D->D->Prop:=fun ds d=>∃ (st:Str) (rs:List yL),ds=[gD C st rs]/\d=.str st
def ir (C:Addr):List D->List D->Prop:=fun ds d=>∃ (st:Str) (rs:List yL),ds=[gD C st rs]/\d=yG rs
def fz (C:Addr):List D->List D->Prop:=fun ds d=>∃ (st:Str) (rs:List yL),ds=[gD C st rs]/\d=Yi (y8 rs)
def lE (C:Addr):List D->List D->Prop:=fun ds d=>∃ (st:Str) (rs:List yL),ds=[gD C st rs]/\d=Yi (Jk (y8 rs) rs)
theorem JA:("start" : Str)∉gF:=by decide +kernel
theorem QU:("rules" : Str)∉gF:=by decide +kernel
theorem Ze:("heads" : Str)∉gF:=by decide +kernel
theorem Z5:("live" : Str)∉gF:=by decide +kernel
structure ClsG (K:W.Frag)(C:Addr):Prop where
 c:Cls K C
 n_first:qM K C "first"
 n_kept_rules:qM K C "kept_rules"
 n_kept_heads:qM K C "kept_heads"
 n_kept_live:qM K C "kept_live"
theorem Uv:∀ {rs:List yL} {acc:List Str},(rs.foldl QG acc).length<=acc.length+rs.length
 |[],acc=>by simp
 |r::rs,acc=>by
  have:=Uv (rs:=rs) (acc:=QG acc r);rw[YQ,yI];have:(QG acc r).length<=acc.length+1:=by
   unfold QG;split
   ·omega
   ·rw[Yh];exact yo _
  omega
theorem Xb {rs:List yL}:(y8 rs).length<=rs.length:=by
 have:=Uv (rs:=rs) (acc:=[]);unfold y8;simpa using this
theorem xr {xs:List Str}:Jr true (.lst (Yi xs))=true:=by
 rw[Jr,Ku];rfl
theorem nY {c n:Nat}{x:Str}(h:x.cps.toList=[n]):leS x ⟨#[c]⟩=decide (n<=c):=by
 unfold leS;rw[h,Yq];simp[List.cons_lt_cons_iff]
theorem nG {c n:Nat}{x:Str}(h:x.cps.toList=[n]):leS ⟨#[c]⟩ x=decide (c<=n):=by
 unfold leS;rw[h,Yq];simp[List.cons_lt_cons_iff]
theorem cU {c:Nat}(h:vY c=true):c<128:=by
 unfold vY at h;simp at h;omega
theorem dH {x:Str}(h:kK x):x.cps.all (·<128)=true:=by
 rw[Array.all_eq_true_iff_forall_mem];intro c hc;simpa using cU (h.2.2 c (by simpa using hc))
theorem cv {x:Str}{i:Nat}{d:D}(h:(uB x)[i]?=some d):∃ c,x.cps.toList[i]?=some c/\d=.str ⟨#[c]⟩:=by
 unfold uB at h;rw[yl] at h;obtain⟨c,h1,h2⟩:=yX.mp h;exact⟨c,h1,h2.symm⟩
theorem dc {x:Str}:(uB x).length=x.cps.size:=by unfold uB;simp
theorem mm {t q:Rat}{i:Nat}(ht:0<=t/\Sz (1+i*1001) t)(hq:0<=q/\Sz 1000 q):0<=t+q/\Sz (1+(i+1)*1001) (t+q):=⟨ul ht.1 hq.1,(X2 ht.2 hq.2).mono (by omega)⟩
theorem mn {K:W.Frag}{C:Addr}(pg:W.plainGet K C Str.empty=true)(hd:W.hasDictIn K C=true)(po:W.plainOver K C=true)(sa:W.findIn K (.ref C) "__setattr__" = some (some (.builtin "object.__setattr__")))
  (n1:W.findIn K (.ref C) "first" = some none) (n2:W.findIn K (.ref C) "kept_rules" = some none) (n3:W.findIn K (.ref C) "kept_heads" = some none) (n4:W.findIn K (.ref C) "kept_live" = some none):ClsG K C:=⟨⟨pg,hd,po,sa⟩,n1,n2,n3,n4⟩
theorem Wl {K:W.Frag}{h:Heap}{mg:Str->Option Value}(X:K.In h)(G:h.Ns mainGlobals mg){x:Str}{i:Int}{t:Tok}(a:W.nsIn K mainGlobals x=some (some (.int i t))):ql K mg x (.int i):=
 ⟨.int i,.int i t,W.mg_of X G a,⟨t,rfl⟩,fun F=>Jw F⟩
def wM (n:Nat)(W B:Nat->Nat->Rat):Nat->Nat->Rat:=fun i j=>if j<n then W i j else B i (j - n)
theorem cj {n m s:Nat}{W B:Nat->Nat->Rat}(h:ve n n s W)(hb:ve n m s B):ve n (n+m) s (wM n W B):=fun i j hi hj=>by
 unfold wM;by_cases q:j<n
 ·rw[ye q];exact h i j hi q
 ·rw[yd q];exact hb i (j - n) hi (by omega)
theorem Kp {n:Nat}{W B:Nat->Nat->Rat}:∀ i j,i<n->j<n->wM n W B i j=W i j:=fun i j _ hj=>by
 unfold wM;rw[ye hj]
theorem X7 {n:Nat}{W B:Nat->Nat->Rat}(h:Piv n W):Piv n (wM n W B):=fun k hk=>by
 rw[Wa Kp k (by omega) k k hk hk];exact h k hk
theorem U3 {α:Type}{n:Nat}{f:Nat->α}:∀ {m:Nat} {g:Nat->α},tb n f++tb m g=tb (n+m) fun j=>if j<n then f j else g (j - n)
 |0,g=>by
  show tb n f++[]=tb n _;rw[y9];exact Zi fun j hj=>by rw[ye hj]
 |m+1,g=>by
  rw[show n+(m+1)=(n+m)+1 from rfl,Ql,Ql,←List.append_assoc,U3,yd (by omega),QX]
theorem rj {n m i:Nat}{W B:Nat->Nat->Rat}:(tb n fun j=>sh (W i j))++(tb m fun j=>sh (B i j))=tb (n+m) fun j=>sh (wM n W B i j):=by
 rw[U3];refine Zi fun j _=>?_;unfold wM;by_cases q:j<n
 ·rw[ye q,ye q]
 ·rw[yd q,yd q]
theorem mH {α:Type}{n m:Nat}{f:Nat->α}:(tb (n+m) f).drop n=tb m fun j=>f (n+j):=by
 refine qe fun i=>?_;rw[List.getElem?_drop];by_cases h:i<m
 ·rw[ja h,ja (by omega)]
 ·rw[yt.mpr (by rw[Yk];omega),yt.mpr (by rw[Yk];omega)]
def Aj (n m s:Nat)(W B:Nat->Nat->Rat):Prop:=n<=1000/\m<=1000/\ve n n s W/\ve n m s B/\sK s n<=big
def oP:List D->D->Prop:=fun ds d=>∃ (n m s:Nat) (W B:Nat->Nat->Rat),ds=[shM n n W,shM n m B]/\d=shM n m (fun i j=>EK (wM n W B) n i (n+j))/\Aj n m s W B/\Piv n W
section
variable {κ κ' α β:Type}[DecidableEq κ][DecidableEq κ']{f:κ->κ'}{g:α->β}
theorem kg (hf:∀ x y,f x=f y->x=y){k:κ}:∀ {ks:List κ} {xs:List α},vA (ks.map f) (xs.map g) (f k)=(vA ks xs k).map g
 |[],_=>rfl
 |_::_,[]=>rfl
 |q::ks,x::xs=>by
  have ih:=kg hf (k:=k) (ks:=ks) (xs:=xs);unfold vA at ih ⊢;rw[yy,yy,yU,yU,Ys,Ys];by_cases e:q=k
  ·rw[yO e,yO (show f q=f k by rw[e])];rfl
  ·rw[yC e,yC (show ¬ f q=f k from fun z=>e (hf _ _ z))];exact ih
theorem vn (hf:∀ x y,f x=f y->x=y){k:κ}{ks:List κ}:f k∈ks.map f ↔ k∈ks:=by
 rw[yx];exact⟨fun⟨x,h,e⟩=>hf _ _ e▸h,fun h=>⟨k,h,rfl⟩⟩
theorem ab (hf:∀ x y,f x=f y->x=y){k:κ}{ks:List κ}:pK (ks.map f) (f k)=(pK ks k).map f:=by
 unfold pK;by_cases h:k∈ks
 ·rw[ye h,ye ((vn hf).mpr h)]
 ·rw[yd h,yd fun z=>h ((vn hf).mp z),yr];rfl
theorem Xg (hf:∀ x y,f x=f y->x=y){k:κ}{ks:List κ}{xs:List α}{v:α}:pA (ks.map f) (xs.map g) (f k) (g v)=(pA ks xs k v).map g:=by
 unfold pA;by_cases h:k∈ks
 ·rw[ye h,ye ((vn hf).mpr h),List.zip_map,Yx,Yx];refine Qy fun p _=>?_;show(if f p.1=f k then g v else g p.2)=g (if p.1=k then v else p.2);by_cases e:p.1=k
  ·rw[ye e,ye (by rw[e])]
  ·rw[yd e,yd fun z=>e (hf _ _ z)]
 ·rw[yd h,yd fun z=>h ((vn hf).mp z),yr];rfl
theorem Wr {k:κ}{v:α}:∀ {ks:List κ} {xs:List α},vA ks xs k=some v->v∈xs
 |[],_,h=>by simp[vA] at h
 |_::_,[],h=>by simp[vA] at h
 |q::ks,x::xs,h=>by
  unfold vA at h;rw[yU,Ys] at h;by_cases e:q=k
  ·rw[yO e] at h;cases h;exact yp
  ·rw[yC e] at h;exact yc _ (Wr h)
theorem dZ {k:κ}{v x:α}{ks:List κ}{xs:List α}(h:x∈pA ks xs k v):x=v∨x∈xs:=by
 unfold pA at h;split at h
 ·obtain⟨p,hp,e⟩:=yx.mp h;split at e
  ·exact .inl e.symm
  ·exact .inr (e▸(jU hp).2)
 ·rcases qb.mp h with z|z
  ·exact .inr z
  ·exact .inl (yD.mp z)
theorem iz {k:κ}{ks:List κ}:(pK ks k).length<=ks.length+1:=by
 unfold pK;split
 ·omega
 ·rw[Yh];exact yo _
theorem oX {k x:κ}{ks:List κ}(h:x∈pK ks k):x=k∨x∈ks:=by
 unfold pK at h;split at h
 ·exact .inr h
 ·rcases qb.mp h with z|z
  ·exact .inr z
  ·exact .inl (yD.mp z)
theorem su {ks:List κ}{F:Nat->α}{k:κ}:∀ {i:Nat},ks.Nodup->ks[i]?=some k->vA ks (tb ks.length F) k=some (F i):=by
 induction ks generalizing F with
 |nil=>intro i _ h;simp at h
 |cons q ks ih=>
  intro i nd h;rw[yI,fL];unfold vA;rw[yU,Ys];cases i with
  |zero=>
   rw[yO (show q=k by simpa using h)];rfl
  |succ i=>
   have hk:ks[i]?=some k:=by simpa using h
   have ne:¬ q=k:=fun e=>(Yc.mp nd).1 (e▸yq hk);rw[yC ne];exact ih (F:=fun i=>F (i+1)) (Yc.mp nd).2 hk
end
def JL (hs L:List Str)(rs:List yL):List yL:=rs.filter fun r=>Q9 hs L r.2.1
def jj (L:List Str)(r:yL):Bool:=match r.2.1 with|[x]=>decide (x∈L)|_=>false
def b0 (r:yL):Str:=r.2.1.headD ""
def kW (p:Str×Str):List Key:=[.inr p.1,.inr p.2]
def kS (p:Str×Nat×Nat):List Key:=[.inr p.1,.inl (p.2.1:Int),.inl (p.2.2:Int)]
theorem xW:∀ x y,kW x=kW y->x=y:=fun⟨a,b⟩ ⟨c,d⟩ h=>by
 unfold kW at h;simp only[List.cons.injEq,Sum.inr.injEq,and_true] at h;rw[h.1,h.2]
theorem wr:∀ x y,kS x=kS y->x=y:=fun⟨a,b,c⟩ ⟨d,e,f⟩ h=>by
 unfold kS at h;simp only[List.cons.injEq,Sum.inr.injEq,Sum.inl.injEq,and_true,Int.ofNat_inj] at h;rw[h.1,h.2.1,h.2.2]
def qp:Str->Key:=Sum.inr
theorem Zm:∀ x y,qp x=qp y->x=y:=fun x y h=>Sum.inr.inj h
def gc (ss:List yL)(h o:Str):Rat:=(vA (ss.map fun r=>(r.1,b0 r)) (ss.map (·.2.2)) (h,o)).getD 0
abbrev Kn:=List (Str×Nat×Nat)×List Rat
def knK (kn:Kn):List (List Key):=kn.1.map kS
def knV (kn:Kn):List D:=kn.2.map sh
def knD (kn:Kn):D:=.dt (knK kn) (knV kn)
def Zq (kn:Kn)(h:Str)(i j:Nat):Rat:=(vA kn.1 kn.2 (h,i,j)).getD 0
def m9 (kn:Kn)(h:Str)(i j:Nat)(t:Rat):Kn:=(pK kn.1 (h,i,j),pA kn.1 kn.2 (h,i,j) t)
def woS (hs row:List Str)(kn:Kn)(i j:Nat)(x:Str):Rat:=if x∈hs then Zq kn x i j else if j=i+1/\row[i]?=some x then 1 else 0
abbrev En:=List Str×List Rat
def enD (e:En):D:=.dk (e.1.map qp) (e.2.map sh)
def Qn (wo:Str->Rat)(acc:En)(r:yL):En:=if wo (b0 r)=0 then acc else (pK acc.1 r.1,pA acc.1 acc.2 r.1 ((vA acc.1 acc.2 r.1).getD 0+r.2.2*wo (b0 r)))
def kL (wo:Str->Rat)(br:List yL):En:=br.foldl (Qn wo) ([],[])
def chS (L:List Str)(ch:Nat->Nat->Rat)(h o:Str):Rat:=ch (L.idxOf h) (L.idxOf o)
def chD (L:List Str)(ch:Nat->Nat->Rat):D:=.dk (L.map qp) (tb L.length fun i=>.dk (L.map qp) (tb L.length fun j=>sh (ch i j)))
def uo (ps:List (Rat×Rat)):Rat:=ps.foldl (fun a p=>a+p.1*p.2) 0
def K8 (L:List Str)(ch:Nat->Nat->Rat)(e:En)(h:Str):List (Rat×Rat):=e.1.map fun o=>(chS L ch h o,(vA e.1 e.2 o).getD 0)
def Kd (L:List Str)(ch:Nat->Nat->Rat)(e:En)(h:Str):Rat:=uo (K8 L ch e h)
def QF (L:List Str)(ch:Nat->Nat->Rat)(e:En)(i j:Nat)(kn:Kn)(h:Str):Kn:=if Kd L ch e h=0 then kn else m9 kn h i j (Kd L ch e h)
def Jf (hs row L:List Str)(br:List yL)(ch:Nat->Nat->Rat)(kn:Kn)(p:Nat×Nat):Kn:=L.foldl (QF L ch (kL (woS hs row kn p.1 p.2) br) p.1 p.2) kn
def zh (n:Nat):List (Nat×Nat):=(List.range n).flatMap fun l=>(List.range (n - l)).map fun i=>(i,i+l+1)
def se (hs row L:List Str)(br:List yL)(ch:Nat->Nat->Rat):Kn:=(zh row.length).foldl (Jf hs row L br ch) ([],[])
def JV (p:Nat×Nat):D:=.tup [.int (p.1:Int),.int (p.2:Int)]
def ju (p:Rat×Rat):D:=.tup [sh p.1,sh p.2]
def sF:List Str:=["grammar", "row", "known_heads", "branches", "chains", "known_sums", "known_worths"]
def cJ (n s:Nat):Nat:=n*(4*s+2)+2
def nL:List D->D->Prop:=fun ds d=>∃ (ps:List (Rat×Rat)) (s:Nat),ds=[.lst (ps.map ju)]/\d=sh (uo ps)/\(∀ p∈ps,(0<=p.1/\Sz s p.1)/\0<=p.2/\Sz s p.2)/\cJ ps.length s<=big/\s<=10000000
def oI:List D->D->Prop:=fun ds d=>∃ row:List Str,ds=[qB row]/\d=.lst ((zh row.length).map JV)/\row.length<=10
noncomputable def l6 (C:Addr):List D->D->Prop:=fun ds d=>∃ (st:Str) (rs:List yL),ds=[gD C st rs]/\d=.lst (yG (JL (y8 rs) (Jk (y8 rs) rs) rs))/\rs.length<=30/\∀ r∈rs,r.2.1.length<=4
def lL:List D->D->Prop:=fun ds d=>∃ (r:yL) (L:List Str),ds=[Qo r,.lst (Yi L)]/\d=.bl (jj L r)
def wM2 (L:List Str)(ss:List yL):Nat->Nat->Rat:=fun i j=>gc ss (L.getD i "") (L.getD j "")
def idM (L:List Str):Nat->Nat->Rat:=fun i j=>if L.getD i "" = L.getD j "" then 1 else 0
def chF (L:List Str)(ss:List yL):Nat->Nat->Rat:=fun i j=>EK (wM L.length (wM2 L ss) (idM L)) L.length i (L.length+j)
def fK:List D->D->Prop:=fun ds d=>∃ (L:List Str) (ss:List yL) (s:Nat),ds=[.lst (Yi L),.lst (yG ss)]/\d=chD L (chF L ss)/\L.Nodup/\L.length<=30/\ss.length<=30/\(∀ r∈ss,∃ x,r.2.1=[x])/\(ss.map fun r=>(r.1,b0 r)).Nodup/\(∀ r∈ss,0<=r.2.2/\Sz s r.2.2)/\1<=s/\sK s L.length<=big/\Piv L.length (wM2 L ss)
def sO (Cs:Addr)(g row hs br ch kn kw:D):D:=.obj Cs sF [g,row,hs,br,ch,kn,kw]
def fu (Cs:Addr):List D->D->Prop:=fun ds d=>∃ (g row hs br ch kw:D) (kn:Kn) (h:Str) (i j:Nat),ds=[sO Cs g row hs br ch (knD kn) kw,.str h,.int (i:Int),.int (j:Int)]/\d=sh (Zq kn h i j)
noncomputable def fY (Cs Cg:Addr):List D->D->Prop:=fun ds d=>∃ (st:Str) (rs:List yL) (row:List Str) (hs br ch kw:D) (kn:Kn),ds=[sO Cs (gD Cg st rs) (qB row) hs br ch (knD kn) kw]/\d=sh (Zq kn st 0 row.length)
def na (Cs:Addr):List D->D->Prop:=fun ds d=>∃ (g br ch kw:D) (row hs:List Str) (kn:Kn) (x:Str) (i j:Nat),ds=[sO Cs g (qB row) (.lst (Yi hs)) br ch (knD kn) kw,.str x,.int (i:Int),.int (j:Int)]/\d=sh (woS hs row kn i j x)/\i<row.length
def fI (Cs:Addr):List D->D->Prop:=fun ds d=>∃ (g br ch kw:D) (row hs:List Str) (kn:Kn) (x:Str) (i j:Nat),ds=[sO Cs g (qB row) (.lst (Yi hs)) br ch (knD kn) kw,qB [x],.int (i:Int),.int (j:Int)]/\d=sh (woS hs row kn i j x)/\i<row.length
def uY (t:Nat)(kn:Kn):Prop:=∀ q∈kn.2,0<=q/\Sz t q
def brB (n s t:Nat):Nat:=n*(s+t+4)+1
def fQ (s:Nat)(br:List yL):Prop:=∀ r∈br,(∃ x,r.2.1=[x])/\0<=r.2.2/\Sz s r.2.2
def dY (Cs:Addr):List D->D->Prop:=fun ds d=>∃ (g ch kw:D) (row hs:List Str) (br:List yL) (kn:Kn) (i j s t:Nat),ds=[sO Cs g (qB row) (.lst (Yi hs)) (.lst (yG br)) ch (knD kn) kw,.int (i:Int),.int (j:Int)]/\d=enD (kL (woS hs row kn i j) br)/\i<row.length/\br.length<=30/\fQ s br/\uY t kn/\1<=t/\brB br.length s t<=big
def cS:List D->D->Prop:=fun ds d=>∃ (c:Int) (m:Nat),ds=[.int c,.int (m:Int)]/\d=.lst (Yi ((List.range m).map (Qa c)))/\m<=20
theorem lJ {c:Int}{k p:Nat}(q:Int)(h:q=(stp c k p:Nat)):atI fE.cps.toList (q % 52)=some (lt (stp c k p % 52)):=by
 have e:q % 52=((stp c k p % 52:Nat):Int):=by omega
 rw[e];exact Ki (ia ⟨stp c k p % 52,Nat.mod_lt _ (by decide)⟩)
theorem ij {l:List Nat}{c:Nat}:(⟨l.toArray⟩:Str)++⟨#[c]⟩=⟨(l++[c]).toArray⟩:=by
 show Str.mk (l.toArray++#[c])=_;simp
section
variable {X:Cx}{B:Bs}{Γ:Ga}{Ω:Om}{E:E3}{rest body:List Stmt}{e c:Expr}{pos:Pos}{x:Str}{ds es:List D}{d:D}
theorem f9 {i:Nat}{a:Addr}{apos np ppos:Pos}(hi:X.N[i]?=some x)(hv:Vis X.env.scope x)(hΓ:Γ[i]?=some (some (.raw (.ref a))))(he:PF3 X Γ e es)(hz:ds.length+es.length<=sizeLine)(h:W3 X B rest Γ ((a,Q3 X.K (ds++es))::Ω) E)
  (hs:∀ {t:TE},PE X (.Call (.Attribute (.Name x np) "extend" apos) [e] [] ppos) t->PS X (.Expr (.Call (.Attribute (.Name x np) "extend" apos) [e] [] ppos) pos) (bX t):=by exact fun h=>VL h)
  (hd:(x==("__debug__" : Str))=false:=by decide) (hcd:(x==("__classdict__" : Str))=false:=by decide) (hst:starEach [e] X.env=(false,eval e X.env)::starEach [] X.env:=by rfl)
  (hp:∀ {to:TE} {ta:TA},PE X (.Name x np) to->PA X [e] ta->PE X (.Call (.Attribute (.Name x np) "extend" apos) [e] [] ppos) (tBM X.K "list" bZ to ta):=by exact fun a b=>i7 PySem.F.plainAttrs_list PySem.F.slot_list_extend PySem.F.type_list_extend c7 a b) :
  W3 X B (.Expr (.Call (.Attribute (.Name x np) "extend" apos) [e] [] ppos) pos::rest) Γ ((a,Q3 X.K ds)::Ω) E:=fun F σ H S pins s I=>by
 obtain⟨v,e1,e2⟩:=S.sl i _ hΓ;cases isR e2;obtain⟨fa,o0,ha,ho⟩:=S.own (a,Q3 X.K ds) (by simp);obtain⟨xs,rfl,il⟩:=ho F (yW.refl _);refine Y7 (hs (hp (aI hi hv hd hcd) (vP he uf hst))) qL pins s σ H _ I ⟨_,e1,.inl ⟨rfl,_,SqL.of ha⟩,F,S.fh,S.sl,fun p ys H' F' pu hp fp e' iv=>?_⟩;have S1:=S.pur pu;exact⟨a,p,xs,ys,rfl,rfl,pu.hh _ _ ha,e',by rw[il.len,iv.len];exact hz,Y5 pu.ff (h F' σ _ (S1.turn fun F2 e2=>⟨_,rfl,(il.mono (pu.ff.trans e2)).append (iv.mono e2)⟩))⟩
end
structure SopOk (s:Nat)(ps:List (Rat×Rat))(n:Nat)(t b:Int):Prop where
 t0:0<=t
 b0:0<b
 tb:t.natAbs<2 ^ (n*(2*s+1)+1)
 bb:b.natAbs<2 ^ (n*(2*s+1)+1)
 e:Rat.divInt t b=uo ps
theorem n8 {s:Nat}{ps:List (Rat×Rat)}:SopOk s (ps.take 0) 0 0 1:=⟨Int.le_refl _,by decide,by rw[Nat.zero_mul];decide,by rw[Nat.zero_mul];decide,by simp[uo]⟩
theorem UY {ps:List (Rat×Rat)}{p:Rat×Rat}:uo (ps++[p])=uo ps+p.1*p.2:=by
 unfold uo;rw[qg];rfl
theorem SopOk.skip {s n:Nat}{ps:List (Rat×Rat)}{p:Rat×Rat}{t b:Int}(h:SopOk s ps n t b)(hp:p.1=0∨p.2=0):SopOk s (ps++[p]) (n+1) t b:=by
 have hm:2 ^ (n*(2*s+1)+1)<=2 ^ ((n+1)*(2*s+1)+1):=QH (by decide) (by rw[Nat.add_mul n 1,Nat.one_mul];omega);refine⟨h.t0,h.b0,yE h.tb hm,yE h.bb hm,?_⟩;rw[UY,h.e];rcases hp with z|z
 ·rw[z,Rat.zero_mul,Rat.add_zero]
 ·rw[z,Rat.mul_zero,Rat.add_zero]
theorem lx {x y g:Int}(h:0<g):Rat.divInt (x*g) (y*g)=Rat.divInt x y:=Rat.divInt_mul_right (by omega)
theorem oF {t b n e:Int}(hb:0<b)(he:0<e):Rat.divInt (t*(e / My.G b e)+n*(b / My.G b e)) (b / My.G b e*e)=Rat.divInt t b+Rat.divInt n e:=by
 have g0:0<My.G b e:=My.G_pos he;obtain⟨b',eb⟩:My.G b e ∣ b:=by have:=Int.gcd_dvd_left b e;exact this
 obtain⟨e',ee⟩:My.G b e ∣ e:=by have:=Int.gcd_dvd_right b e;exact this
 generalize hg:My.G b e=g at *;have d1:b / g=b':=by rw[eb,QK _ (by omega)]
 have d2:e / g=e':=by rw[ee,QK _ (by omega)]
 rw[d1,d2,Rat.divInt_add_divInt _ _ (by omega) (by omega),←lx (x:=t*e'+n*b') (y:=b'*e) g0];congr 1
 ·rw[ee,eb];grind
 ·rw[eb];grind
theorem SopOk.more {s n:Nat}{ps:List (Rat×Rat)}{p:Rat×Rat}{t b:Int}(h:SopOk s ps n t b)(h1:0<=p.1/\Sz s p.1)(h2:0<=p.2/\Sz s p.2) :
  SopOk s (ps++[p]) (n+1) (t*((p.1.den:Int)*(p.2.den:Int) / My.G b ((p.1.den:Int)*(p.2.den:Int)))+p.1.num*p.2.num*(b / My.G b ((p.1.den:Int)*(p.2.den:Int)))) (b / My.G b ((p.1.den:Int)*(p.2.den:Int))*((p.1.den:Int)*(p.2.den:Int))):=by
 have he:0<(p.1.den:Int)*(p.2.den:Int):=jm (My.den_pos' _) (My.den_pos' _);have g0:0<My.G b ((p.1.den:Int)*(p.2.den:Int)):=My.G_pos he;have n1:=My.q_num_nn h1.1;have n2:=My.q_num_nn h2.1;have eb:((p.1.den:Int)*(p.2.den:Int)).natAbs<2 ^ (s+s):=YY (QY h1.2) (QY h2.2);have c1:=KC (a:=b) (g:=My.G b ((p.1.den:Int)*(p.2.den:Int))) (yz h.b0) g0;have c2:=KC (a:=(p.1.den:Int)*(p.2.den:Int)) (g:=My.G b ((p.1.den:Int)*(p.2.den:Int))) (yz he) g0;have b1:=vk c1 h.bb;have b2:=vk c2 eb;have bn:(p.1.num*p.2.num).natAbs<2 ^ (s+s):=YY h1.2.1 h2.2.1;have x1:=YY h.tb b2;have x2:=YY bn b1;have x3:=YY b1 eb;have eX:n*(2*s+1)+1+(s+s)+1=(n+1)*(2*s+1)+1:=by rw[Nat.add_mul n 1,Nat.one_mul];omega
 have e2:2 ^ ((n+1)*(2*s+1)+1)=2 ^ (n*(2*s+1)+1+(s+s))+2 ^ (n*(2*s+1)+1+(s+s)):=by rw[←eX,Nat.pow_succ];omega
 rw[Nat.add_comm (s+s)] at x2;refine⟨Int.add_nonneg (Int.mul_nonneg h.t0 c2.1) (Int.mul_nonneg (Int.mul_nonneg n1 n2) c1.1),jm ?_ he,?_,?_,?_⟩
 ·obtain⟨q,hq⟩:My.G b ((p.1.den:Int)*(p.2.den:Int)) ∣ b:=by have:=Int.gcd_dvd_left b ((p.1.den:Int)*(p.2.den:Int));exact this
  have hb:=h.b0;generalize My.G b ((p.1.den:Int)*(p.2.den:Int))=g at *;subst hq;rw[QK _ (by omega)];exact Int.pos_of_mul_pos_right hb g0
 ·rw[e2];exact Qx (Int.natAbs_add_le _ _) (by omega)
 ·rw[e2];omega
 ·rw[oF h.b0 he,UY,h.e];congr 1;exact My.q_mul p.1 p.2
theorem wQ {α:Type}{f:α->D}{xs:List α}{i:Nat}{d:D}(h:(xs.map f)[i]?=some d):∃ x,xs[i]?=some x/\d=f x:=by
 rw[yl] at h;obtain⟨x,h1,h2⟩:=yX.mp h;exact⟨x,h1,h2.symm⟩
def uD (n i:Nat):List (Nat×Nat):=(List.range i).flatMap fun l=>(List.range (n - l)).map fun j=>(j,j+l+1)
theorem uI {n i:Nat}:uD n (i+1)=uD n i++(List.range (n - i)).map fun j=>(j,j+i+1):=by
 unfold uD;rw[QA,List.flatMap_append];simp
theorem UQ {n i:Nat}:(uD n i).length<=n*i:=by
 induction i with
 |zero=>simp[uD]
 |succ i ih=>
  rw[uI,Yh,yf,qZ,Nat.mul_succ];omega
theorem UG {L:List Str}:Yi L=(L.map qp).map vV:=by unfold Yi;rw[Yx];rfl
theorem uu {L:List Str}(h:L.Nodup):(L.map qp).Nodup:=by
 rw[qd,List.pairwise_map];exact(qd.mp h).imp fun a b=>a (Zm _ _ b)
theorem bP {ss:List yL}{s:Nat}{h o:Str}(hs:∀ r∈ss,0<=r.2.2/\Sz s r.2.2)(h1:1<=s):0<=gc ss h o/\Sz s (gc ss h o):=by
 unfold gc;cases q:vA (ss.map fun r=>(r.1,b0 r)) (ss.map (·.2.2)) (h,o) with
 |none=>exact⟨by decide,V4.mono h1⟩
 |some v=>
  obtain⟨r,hr,e⟩:=yx.mp (Wr q);rw[←e];exact hs r hr
theorem iu {L:List Str}{F:Nat->Nat->Rat}{i:Nat}{d:D}(h:(vb (Yi L) (tb L.length fun i=>shR L.length (F i)))[i]?=some d):∃ x,i<L.length/\L[i]?=some x/\d=.tup [.str x,shR L.length (F i)]:=by
 unfold vb at h;rw[yl] at h;obtain⟨p,h1,h2⟩:=yX.mp h;obtain⟨a,b⟩:=YE.mp h1;obtain⟨x,hx,ex⟩:=jI a;have hi:i<L.length:=(yh.mp hx).1;rw[ja hi] at b;refine⟨x,hi,hx,?_⟩;rw[←h2,ex,←Option.some.inj b]
theorem fP {L:List Str}{F:Nat->Nat->Rat}:(vb (Yi L) (tb L.length fun i=>shR L.length (F i))).length=L.length:=by
 unfold vb;rw[yf,YG,qD,Yk];omega
end L3
namespace Law
open PySem L2 L3
theorem jh:FnScope ["one", "other", "rest"] ["one", "other"] (yi Qf):=qE
theorem xm:FnScope ["top", "bottom", "divisor"] ["top", "bottom"] (yi Zv):=qE
theorem VI:FnScope ["one", "other", "divisor", "top", "left"] ["one", "other"] (yi Zz):=qE
theorem xq:FnScope ["one", "other"] ["one", "other"] (yi Jx):=qE
theorem K0:FnScope ["one", "other", "first", "second"] ["one", "other"] (yi vN):=qE
theorem dA:FnScope ["one", "other"] ["one", "other"] (yi Zf):=qE
theorem YL:FnScope ["pairs", "top", "bottom", "one", "other", "below", "divisor"] ["pairs"] (yi qx):=qE
theorem Xq:FnScope ["one", "other"] ["one", "other"] (yi J7):=qE
theorem vT:FnScope ["self", "start", "rules"] ["self", "start", "rules"] (yi qC):=qE
theorem V7:FnScope ["self"] ["self"] (yi Qu):=qE
theorem VY:FnScope ["self"] ["self"] (yi Qr):=qE
theorem VX:FnScope ["self"] ["self"] (yi Qt):=qE
theorem k9:FnScope ["self"] ["self"] (yi QQ):=qE
theorem zb:FnScope ["rules", "seen", "rule"] ["rules"] (yi Q6):=qE
theorem vX:FnScope ["rule", "symbol"] ["rule"] (yi jF):=qE
theorem k8:FnScope ["text"] ["text"] (yi QT):=qE
theorem wR:FnScope ["text"] ["text"] (yi jx):=qE
theorem Wn:FnScope ["sign"] ["sign"] (yi j9):=qE
theorem KD:FnScope ["start", "heads"] ["start", "heads"] (yi Q5):=qE
theorem jW:FnScope ["heads", "rules", "head", "total", "rule"] ["heads", "rules"] (yi jE):=qE
theorem vh:FnScope ["rules", "heads", "rule"] ["rules"] (yi JF):=qE
theorem JE:FnScope ["heads", "rules", "live", "grown", "found"] ["heads", "rules"] (yi Jy):=qE
theorem V2:FnScope ["head", "rules", "heads", "live"] ["head", "rules", "heads", "live"] (yi qY):=qE
theorem kU:FnScope ["body", "heads", "live"] ["body", "heads", "live"] (yi Qi):=qE
theorem ZI:FnScope ["row", "found", "length"] ["row"] (yi jq):=qE
theorem jr:FnScope ["ways", "ends", "rows", "k", "found"] ["ways", "ends"] (yi qI):=qE
theorem zH:FnScope ["row", "k", "left"] ["row", "k"] (yi qG):=qE
theorem UU:FnScope ["row", "k", "found", "way"] ["row", "k", "found"] (yi zl):=qE
theorem Xo:FnScope ["row", "k"] ["row", "k"] (yi J8):=qE
theorem QJ:FnScope ["self", "grammar", "row", "live", "rules", "i", "j"] ["self", "grammar", "row"] (yi qz):=qE
theorem K3:FnScope ["self", "head", "i", "j"] ["self", "head", "i", "j"] (yi Q8):=qE
theorem Ud:FnScope ["self"] ["self"] (yi jJ):=qE
theorem Jc:FnScope ["self", "i", "j", "ends", "head", "total"] ["self", "i", "j"] (yi Qz):=qE
theorem jX:FnScope ["self", "i", "j", "ends", "rule", "worth"] ["self", "i", "j"] (yi QM):=qE
theorem Ui:FnScope ["self", "symbol", "i", "j"] ["self", "symbol", "i", "j"] (yi jD):=qE
theorem Z9:FnScope ["self", "body", "i", "j"] ["self", "body", "i", "j"] (yi qo):=qE
theorem zQ:FnScope ["grammar", "heads", "live"] ["grammar"] (yi jM):=qE
theorem XR:FnScope ["rule", "heads"] ["rule", "heads"] (yi Zn):=qE
theorem Qb:FnScope ["heads", "steps", "straight", "rule", "ways", "ends", "head", "chains", "found"] ["heads", "steps"] (yi js):=qE
theorem je:FnScope ["self", "grammar", "row", "span", "i", "j"] ["self", "grammar", "row"] (yi QN):=qE
theorem kZ:FnScope ["self", "head", "i", "j"] ["self", "head", "i", "j"] (yi jt):=qE
theorem JI:FnScope ["self", "rule", "head", "body", "pairs"] ["self", "rule"] (yi jH):=qE
theorem uU:FnScope ["self", "body", "i", "j", "pair"] ["self", "body", "i", "j", "pair"] (yi Jj):=qE
theorem Y6:FnScope ["self", "i", "j", "bodies", "chains", "firsts", "head"] ["self", "i", "j"] (yi Y9):=qE
theorem j7:FnScope ["self", "i", "j", "rule"] ["self", "i", "j"] (yi qu):=qE
theorem ji:FnScope ["self", "i", "j", "bodies", "body", "total", "middle"] ["self", "i", "j"] (yi Yv):=qE
theorem JD:FnScope ["grammar", "counted", "product", "row", "many", "whole", "k"] ["grammar", "counted"] (yi vt):=qE
theorem JC:FnScope ["grammar", "counted", "rules", "counts", "sums", "found", "rule", "count"] ["grammar", "counted"] (yi vp):=qE
theorem jB:FnScope ["grammar", "counted", "counts", "row", "many", "parts"] ["grammar", "counted"] (yi jv):=qE
theorem jZ:FnScope ["rules", "counts", "sums", "rule", "count"] ["rules", "counts"] (yi jp):=qE
theorem KI:FnScope ["_law_script", "_law_k"] ["_law_script", "_law_k"] (yi jT):=qE
theorem YU:FnScope ["_law_cell", "_law_many", "_law_letters", "_law_size", "_law_at", "_law_out", "_law_k", "_law_name", "_law_place", "_law_step"] ["_law_cell", "_law_many"] (yi Q7):=qE
theorem jO:FnScope ["_law_top", "_law_bottom", "_law_one", "_law_other", "_law_rest"] ["_law_top", "_law_bottom"] (yi Jb):=qE
theorem Uf:FnScope ["_law_parts"] ["_law_parts"] (yi jN):=qE
theorem JB:FnScope ["_law_script", "_law_many", "_law_names", "_law_shares", "_law_others", "_law_counts", "_law_counted", "_law_rules", "_law_found", "_law_due", "_law_mine", "_law_rivals", "_law_theirs"] ["_law_script"] (yi Z6):=qE
section
variable {P:Program}{w:World}{K:W.Frag}{mg:Str->Option Value}{base:Heap}{C_Grammar C_Sums C_Parts:Addr}
variable (P w K mg base) in
abbrev bQ:Prop:=OkF P w K mg base CX0 2 "common_divisor" ["one", "other"] (spP K 2 tK)
theorem Vu  (d:Yn K mg "common_divisor" Qf ["one", "other"])  : bQ P w K mg base:=by
 refine Yz d jh rfl fun f cdv A outer s H E hr ds r hC B hB=>?_;obtain⟨a,b,rfl,rfl,ha,hb⟩:=hC;refine wm PassesOwn.never (fun Γ _=>∃ (x y:Int) (z:Option D),Γ=[some (.int x),some (.int y),z]/\0<=x/\0<=y/\My.G x y=My.G a b) (fun Γ _=>match Γ with|[_,some (.int y),_]=>y.toNat|_=>0) ⟨a,b,none,rfl,ha,hb,rfl⟩ ?_;rintro Γ Ω ⟨x,y,z,rfl,hx,hy,hg⟩;refine⟨_,(qm (KO (pq 1 rfl) yB)),fun hk=>?_,fun hk=>?_⟩
 ·have hk:=of_decide_eq_true hk;refine YC (i:=2) jh.nd rfl (.inl rfl) (Z0 (pq 0 rfl) (pq 1 rfl) ?_) ?_
  ·exact hk
  refine YC (i:=0) jh.nd rfl (.inl rfl) (pq 1 rfl) ?_;refine YC (i:=1) jh.nd rfl (.inl rfl) (pq 2 rfl) ?_;refine Yb ⟨⟨y,x % y,_,rfl,hy,(JJ hk).1,(a9 hx hk).trans hg⟩,?_⟩;have:=JJ (a:=x) hk;show(x % y).toNat<y.toNat
  omega
 ·have hk:=of_decide_eq_false hk;refine Y8 (pq 0 rfl) ?_;have y0:y=0:=by omega
  subst y0;rw[My.G_end hx] at hg;show D.int x=D.int (My.G a b);rw[hg]
variable (P w K mg base) in
abbrev bW:Prop:=OkF P w K mg base CX0 33 "share" ["top", "bottom"] (spP K 2 aZ)
theorem gM (ht:P.given.tree=none)(d:Yn K mg "share" Zv ["top", "bottom"])(Qg:bQ P w K mg base):bW P w K mg base:=by
 refine Yz d xm rfl fun f cdv A outer s H E hr ds r hC B hB=>?_;obtain⟨t,b,rfl,rfl,h1,h2⟩:=hC;have py:Pyl (cx0 P w K mg base ["top", "bottom", "divisor"] "share" Zv f cdv A outer s H E):=(KN ht rfl rfl hr (yo _)).nox;have g0:=My.G_pos (a:=t) h2;refine JX (qm (cw (pq 0 rfl) yB)) ?_ ?_
 ·intro hk;have hk:=of_decide_eq_true hk;omega
 ·intro hk;refine Yb ?_;refine JX (qm (cw (pq 1 rfl) yB)) ?_ ?_
  ·intro hk;have hk:=of_decide_eq_true hk;omega
  ·intro hk;refine Yb ?_;refine YC (i:=2) xm.nd rfl (.inl rfl) (yV (d:=.int (My.G t b)) Qg (hr.mono (by decide)) rfl (yb (pq 0 rfl) (yb (pq 1 rfl) yn)) ?_) ?_
   ·exact⟨t,b,rfl,rfl,h1,yz h2⟩
   refine Y8 (QE (yb (jf py (pq 0 rfl) (pq 2 rfl) ?_) (yb (jf py (pq 1 rfl) (pq 2 rfl) ?_) yn))) ?_
   ·exact g0
   ·exact g0
   show D.tup [D.int (t / My.G t b),D.int (b / My.G t b)]=sh (Rat.divInt t b);unfold sh;rw[←My.num_share h2,←My.den_share h2,y7 _ (yz g0),y7 _ (yz g0)]
variable (P w K mg base) in
abbrev UV:Prop:=OkF P w K mg base CX0 33 "added" ["one", "other"] (spP K 2 lZ)
theorem gr (ht:P.given.tree=none)(d:Yn K mg "added" Zz ["one", "other"])(Qg:bQ P w K mg base):UV P w K mg base:=by
 refine Yz d VI rfl fun f cdv A outer s H E hr ds r hC B hB=>?_;obtain⟨p,q,m,n,rfl,rfl,hp,hq,s1,s2,l1,l2,-⟩:=hC;have py:Pyl (cx0 P w K mg base ["one", "other", "divisor", "top", "left"] "added" Zz f cdv A outer s H E):=(KN ht rfl rfl hr (by decide)).nox;have g0:0<My.G p.den q.den:=My.G_pos (My.den_pos' q);have n1:=My.q_num_nn hp;have n2:=My.q_num_nn hq;have c1:=KC (a:=(p.den:Int)) (g:=My.G p.den q.den) (yz (My.den_pos' p)) g0;have c2:=KC (a:=(q.den:Int)) (g:=My.G p.den q.den) (yz (My.den_pos' q)) g0;refine YC (i:=2) VI.nd rfl (.inl rfl) (yV (d:=.int (My.G p.den q.den)) Qg (hr.mono (by decide)) rfl (yb (Yg (pq 0 rfl) yB rfl) (yb (Yg (pq 1 rfl) yB rfl) yn)) ?_) ?_
 ·exact⟨_,_,rfl,rfl,yz (My.den_pos' p),yz (My.den_pos' q)⟩
 refine YC (i:=3) VI.nd rfl (.inl rfl) (Jq (Jv (Yg (pq 0 rfl) yB rfl) (jf py (Yg (pq 1 rfl) yB rfl) (pq 2 rfl) ?_) ?_) (Jv (Yg (pq 1 rfl) yB rfl) (jf py (Yg (pq 0 rfl) yB rfl) (pq 2 rfl) ?_) ?_)) ?_
 ·exact g0
 ·exact Jd s1.1 (vk c2 (QY s2)) (by have:big=67108864:=rfl;omega)
 ·exact g0
 ·exact Jd s2.1 (vk c1 (QY s1)) (by have:big=67108864:=rfl;omega)
 have t0:0<=p.num*((q.den:Int) / My.G p.den q.den)+q.num*((p.den:Int) / My.G p.den q.den):=Int.add_nonneg (Int.mul_nonneg n1 c2.1) (Int.mul_nonneg n2 c1.1);have e:=My.add_num n1 n2;generalize hT:p.num*((q.den:Int) / My.G p.den q.den)+q.num*((p.den:Int) / My.G p.den q.den)=T at *;have h0:0<My.G T (My.G p.den q.den):=My.G_pos g0;have c3:=KC (a:=(q.den:Int)) (g:=My.G T (My.G p.den q.den)) (yz (My.den_pos' q)) h0;refine YC (i:=4) VI.nd rfl (.inl rfl) (yV (d:=.int (My.G T (My.G p.den q.den))) Qg (hr.mono (by decide)) rfl (yb (pq 3 rfl) (yb (pq 2 rfl) yn)) ?_) ?_
 ·exact⟨_,_,rfl,rfl,t0,yz g0⟩
 refine Y8 (QE (yb (jf py (pq 3 rfl) (pq 4 rfl) ?_) (yb (Jv (jf py (Yg (pq 0 rfl) yB rfl) (pq 2 rfl) ?_) (jf py (Yg (pq 1 rfl) yB rfl) (pq 4 rfl) ?_) ?_) yn))) ?_
 ·exact h0
 ·exact g0
 ·exact h0
 ·exact Jd (vk c1 (QY s1)) (vk c3 (QY s2)) (by have:big=67108864:=rfl;omega)
 show D.tup [D.int (T / My.G T (My.G p.den q.den)),D.int ((p.den:Int) / My.G p.den q.den*((q.den:Int) / My.G T (My.G p.den q.den)))]=sh (p+q);unfold sh;rw[e.1,e.2]
variable (P w K mg base) in
abbrev iV:Prop:=OkF P w K mg base CX0 2 "is_less" ["one", "other"] (spP K 2 oN)
theorem XT  (d:Yn K mg "is_less" J7 ["one", "other"])  : iV P w K mg base:=by
 refine Yz d Xq rfl fun f cdv A outer s H E hr ds r hC B hB=>?_;obtain⟨p,q,m,n,rfl,rfl,s1,s2,l1,l2⟩:=hC;refine Y8 (Vw (cw (Jv (Yg (pq 0 rfl) yB rfl) (Yg (pq 1 rfl) yB rfl) ?_) (Jv (Yg (pq 1 rfl) yB rfl) (Yg (pq 0 rfl) yB rfl) ?_))) ?_
 ·exact VV s1 s2 l1 l2
 ·exact VV s2 s1 l2 l1
 ·show D.bl (decide (p.num*q.den<q.num*p.den))=D.bl (decide (p<q));rw[decide_eq_decide.mpr (My.q_lt p q)]
variable (P w K mg base) in
abbrev nU:Prop:=OkF P w K mg base CX0 34 "lessened" ["one", "other"] (spP K 2 aD)
theorem WR  (d:Yn K mg "lessened" Jx ["one", "other"])(vS:bW P w K mg base)(kE:iV P w K mg base):nU P w K mg base:=by
 refine Yz d xq rfl fun f cdv A outer s H E hr ds r hC B hB=>?_;obtain⟨p,q,m,n,rfl,rfl,hp,hq,s1,s2,l1,l2,hle⟩:=hC;refine JX (Z4 (yV (d:=.bl (decide (p<q))) kE (hr.mono (by decide)) rfl (yb (pq 0 rfl) (yb (pq 1 rfl) yn)) ?_)) ?_ ?_
 ·exact⟨p,q,m,n,rfl,rfl,s1,s2,l1,l2⟩
 ·intro hk;have hk:=of_decide_eq_true hk;exact absurd hk (Rat.not_lt.mpr hle)
 ·intro hk;refine Yb ?_;refine Y8 (yV (d:=sh (p - q)) vS (hr.mono (by decide)) rfl (yb (nA (Jv (Yg (pq 0 rfl) yB rfl) (Yg (pq 1 rfl) yB rfl) ?_) (Jv (Yg (pq 1 rfl) yB rfl) (Yg (pq 0 rfl) yB rfl) ?_)) (yb (Jv (Yg (pq 0 rfl) yB rfl) (Yg (pq 1 rfl) yB rfl) ?_) yn)) ?_) ?_
  ·exact VV s1 s2 l1 l2
  ·exact VV s2 s1 l2 l1
  ·exact fM s1 s2 l1 l2
  ·exact⟨_,_,rfl,by rw[My.q_sub],pN hle,p7⟩
  ·rfl
variable (P w K mg base) in
abbrev KW:Prop:=OkF P w K mg base CX0 34 "timed" ["one", "other"] (spP K 2 lI)
theorem gJ  (d:Yn K mg "timed" vN ["one", "other"])(vS:bW P w K mg base):KW P w K mg base:=by
 refine Yz d K0 rfl fun f cdv A outer s H E hr ds r hC B hB=>?_;obtain⟨p,q,m,n,rfl,rfl,hp,hq,s1,s2,l1,l2,-⟩:=hC;have n1:=My.q_num_nn hp;have n2:=My.q_num_nn hq;have z1:=Jz (n:=max m n) (My.den_pos' q) (yE s1.1 (Vs (QP m n))) (yE (QY s2) (Vs (Q0 m n)));have z2:=Jz (n:=max m n) (My.den_pos' p) (yE s2.1 (Vs (Q0 m n))) (yE (QY s1) (Vs (QP m n)));refine YC (i:=2) K0.nd rfl (.inl rfl) (yV (d:=sh (Rat.divInt p.num q.den)) vS (hr.mono (by decide)) rfl (yb (Yg (pq 0 rfl) yB rfl) (yb (Yg (pq 1 rfl) yB rfl) yn)) ?_) ?_
 ·exact⟨_,_,rfl,rfl,n1,My.den_pos' q⟩
 refine YC (i:=3) K0.nd rfl (.inl rfl) (yV (d:=sh (Rat.divInt q.num p.den)) vS (hr.mono (by decide)) rfl (yb (Yg (pq 1 rfl) yB rfl) (yb (Yg (pq 0 rfl) yB rfl) yn)) ?_) ?_
 ·exact⟨_,_,rfl,rfl,n2,My.den_pos' p⟩
 refine Y8 (QE (yb (Jv (Yg (pq 2 rfl) yB rfl) (Yg (pq 3 rfl) yB rfl) ?_) (yb (Jv (Yg (pq 2 rfl) yB rfl) (Yg (pq 3 rfl) yB rfl) ?_) yn))) ?_
 ·exact rS z1 z2 (by omega) (by omega)
 ·exact fM z1 z2 (by omega) (by omega)
 show D.tup [D.int ((Rat.divInt p.num q.den).num*(Rat.divInt q.num p.den).num),D.int (((Rat.divInt p.num q.den).den:Int)*((Rat.divInt q.num p.den).den:Int))]=sh (p*q);exact(pG p q).symm
variable (P w K mg base) in
abbrev bE:Prop:=OkF P w K mg base CX0 35 "parted" ["one", "other"] (spP K 2 gR)
theorem dy (yF:ql K mg "NOUGHT" (sh 0))(d:Yn K mg "parted" Zf ["one", "other"])(Jo:KW P w K mg base):bE P w K mg base:=by
 refine Yz d dA rfl fun f cdv A outer s H E hr ds r hC B hB=>?_;obtain⟨p,q,m,n,rfl,rfl,hp,hq,s1,s2,l1,l2,h0⟩:=hC;have hu:=hr.units;refine JX (qm (af hr.units (pq 1 rfl) (YB yF rfl) j5 j4)) ?_ ?_
 ·intro hk;rw[jR] at hk;have hk:=of_decide_eq_true hk;rw[hk] at h0;exact absurd h0 (by decide)
 ·intro hk;refine Yb ?_;refine Y8 (yV (d:=sh (p / q)) Jo (hr.mono (by decide)) rfl (yb (pq 0 rfl) (yb (QE (yb (Yg (pq 1 rfl) yB rfl) (yb (Yg (pq 1 rfl) yB rfl) yn))) yn)) ?_) ?_
  ·refine⟨p,q⁻¹,m,n,by rw[pV h0],by rw[Qh],hp,Yu (Rat.inv_pos.mpr h0),s1,oB h0 s2,l1,l2,trivial⟩
  ·rfl
end
section
variable {P:Program}{w:World}{K:W.Frag}{mg:Str->Option Value}{base:Heap}{C_Grammar C_Sums C_Parts:Addr}
variable (P w K mg base) in
abbrev ie:Prop:=OkF P w K mg base CX0 2 "cleared" ["row", "k"] (spP K 2 cY)
theorem Xk (yF:ql K mg "NOUGHT" (sh 0))(d:Yn K mg "cleared" J8 ["row", "k"])  : ie P w K mg base:=by
 refine Yz d Xo rfl fun f cdv A outer s H E hr ds r hC B hB=>?_;obtain⟨m,k',f',rfl,rfl,hk,hm⟩:=hC;refine Y8 (iP (iP (PF3.p (Ky (pq 0 rfl) XV (ac (pq 1 rfl)))) (nC (yb (YB yF rfl) yn)) ?_) (PF3.p (Ky (pq 0 rfl) (ac (Jq (pq 1 rfl) yB)) XV)) ?_) ?_
 ·rw[wS (by omega),b7 (by omega),Yk];show k'+1<=sizeLine;unfold sizeLine;omega
 ·rw[Yh,wS (by omega),b7 (by omega),Yk,bF (by omega),List.length_drop,Yk];show k'+1+_<=sizeLine;unfold sizeLine;omega
 ·rw[wS (by omega),bF (by omega),pO hk,oU];rfl
variable (P w K mg base) in
abbrev nZ:Prop:=OkF P w K mg base CX0 36 "without_itself" ["row", "k"] (spP K 2 dE)
theorem VH (z:Zs mg)(yF:ql K mg "NOUGHT" (sh 0))(jQ:ql K mg "ONE" (sh 1))(d:Yn K mg "without_itself" qG ["row", "k"])(kE:iV P w K mg base)(aR:nU P w K mg base)(vB:bE P w K mg base)(kz:ie P w K mg base):nZ P w K mg base:=by
 refine Yz d zH rfl fun f cdv A outer s H E hr ds r hC B hB=>?_;obtain⟨m,k',s',f',rfl,rfl,hk,hm,nn,hb,h1⟩:=hC;have a:=nn k' hk;have p:=vq h1;have hu:=hr.units;have sb:Sz (1+s'+1) (1 - f' k'):=Xc VA a.2;refine JX (qm (af hr.units (QS (d:=sh (f' k')) (pq 0 rfl) (pq 1 rfl) ?_) (YB yF rfl) j5 j4)) ?_ ?_
 ·exact zU hk
 ·intro hz;rw[jR] at hz;have hz:=of_decide_eq_true hz;refine Y8 (pq 0 rfl) ?_;refine vO fun j hj=>?_;rw[hz];by_cases h:j=k'
  ·rw[ye h,h,hz]
  ·rw[yd h];grind
 intro _;refine Yb ?_;refine JX (bJ (Z4 (yV (d:=.bl true) kE (hr.mono (by decide)) rfl (yb (QS (d:=sh (f' k')) (pq 0 rfl) (pq 1 rfl) ?_) (yb (YB jQ rfl) yn)) ?_))) ?_ ?_
 ·exact zU hk
 ·exact⟨f' k',1,s',1,rfl,by rw[yO h1],a.2,VA,by omega,by decide⟩
 ·intro hk;cases hk
 ·intro _;refine Yb ?_;refine YC (i:=2) zH.nd rfl (.inr rfl) (yV (d:=sh (1 - f' k')) aR (hr.mono (by decide)) rfl (yb (YB jQ rfl) (yb (QS (d:=sh (f' k')) (pq 0 rfl) (pq 1 rfl) ?_) yn)) ?_) ?_
  ·exact zU hk
  ·exact⟨1,f' k',1,s',rfl,rfl,by decide,a.1,VA,a.2,by decide,by omega,Yu h1⟩
  refine Y8 (PF3.p (qQ (SX:=yi qG) (XN:=["row", "k", "left"]) (N:=["way", "left"]) (nt:=1) (caps:=[2]) (pre:=(fun i=>tb i fun j=>sh (if j=k' then 0 else f' j / (1 - f' k')))) ⟨rfl,by decide +kernel,by decide +kernel,by decide +kernel,rfl,by decide +kernel⟩ (qW (yV (d:=shR m (fun j=>if j=k' then 0 else f' j)) kz (hr.mono (by decide)) rfl (yb (pq 0 rfl) (yb (pq 1 rfl) yn)) ?_)) ?_ ?_ ?_)) ?_
  ·exact⟨m,k',f',rfl,rfl,hk,hm⟩
  ·intro i hi;rw[Yk] at hi ⊢;unfold sizeLine;omega
  ·rfl
  ·intro c i d hd;have hi:i<m:=by
    have:=(yh.mp hd).1
    rwa [Yk] at this
   rw[ja hi] at hd;cases hd;refine⟨_,(yT (i:=0) (show List.Nodup (α:=Str) ["way", "left"] by decide +kernel) rfl (.inl rfl)),(Sub.set rfl),.inl ⟨sh (if i=k' then 0 else f' i / (1 - f' k')),Qq,(yV (d:=sh (if i=k' then 0 else f' i / (1 - f' k'))) vB (hr.mono (by decide)) rfl (yb (pq 0 rfl) (yb (pqc 1 rfl) yn)) ?_),?_⟩⟩
   ·refine⟨_,1 - f' k',s'+1,1+s'+1,rfl,?_,?_,Yu p,?_,sb,by omega,by omega,p⟩
    ·dsimp only;by_cases h:i=k'
     ·rw[ye h,ye h];congr 1;grind
     ·rw[yd h,yd h]
    ·dsimp only;by_cases h:i=k'
     ·rw[ye h];decide
     ·rw[yd h];exact(nn i hi).1
    ·dsimp only;by_cases h:i=k'
     ·rw[ye h];exact V4.mono (by omega)
     ·rw[yd h];exact(nn i hi).2.mono (by omega)
   ·exact Ql
  ·rw[Yk];rfl
variable (P w K mg base) in
abbrev nP:Prop:=OkF P w K mg base CX0 35 "put_in" ["row", "k", "found"] (spP K 3 sC)
theorem dh (z:Zs mg)(yF:ql K mg "NOUGHT" (sh 0))(d:Yn K mg "put_in" zl ["row", "k", "found"])(J6:UV P w K mg base)(Jo:KW P w K mg base)(kz:ie P w K mg base):nP P w K mg base:=by
 refine Yz d UU rfl fun f cdv A outer s H E hr ds r hC B hB=>?_;obtain⟨m,k',s',f',g',rfl,rfl,hk,hm,nn,nng,hb,hg⟩:=hC;have a:=nn k' hk;have hu:=hr.units;refine YC (i:=3) UU.nd rfl (.inr rfl) (QS (d:=sh (f' k')) (pq 0 rfl) (pq 1 rfl) ?_) ?_
 ·exact zU hk
 refine JX (qm (af hr.units (pqc 3 rfl) (YB yF rfl) j5 j4)) ?_ ?_
 ·intro hz;rw[jR] at hz;have hz:=of_decide_eq_true hz;refine Y8 (pq 0 rfl) ?_;refine vO fun j hj=>?_;rw[hz];by_cases h:j=k'
  ·rw[ye h,h,hz]
  ·rw[yd h];grind
 ·intro hz;refine Yb ?_;refine Y8 (PF3.p (qQ (SX:=yi zl) (XN:=["row", "k", "found", "way"]) (N:=["kept", "more", "way"]) (nt:=2) (caps:=[3]) (pre:=(fun i=>tb i fun j=>sh (if j=k' then 0 else f' j+f' k'*g' j))) ⟨rfl,by decide +kernel,by decide +kernel,by decide +kernel,rfl,by decide +kernel⟩ (ck z.zip rfl (yV (d:=shR m (fun j=>if j=k' then 0 else f' j)) kz (hr.mono (by decide)) rfl (yb (pq 0 rfl) (yb (pq 1 rfl) yn)) ?_) (pq 2 rfl)) ?_ ?_ ?_)) ?_
  ·exact⟨m,k',f',rfl,rfl,hk,hm⟩
  ·intro i hi;unfold vb at hi;rw[yf,XO,Yk] at hi;rw[Yk];unfold sizeLine;omega
  ·rfl
  ·intro c i d hd;unfold vb at hd;rw[XO] at hd;have hi:i<m:=by
    have:=(yh.mp hd).1
    rwa [yf,Yk] at this
   rw[yl,ja hi] at hd;cases hd;have zs:Sz (s'+1) (if i=k' then 0 else f' i):=by
    by_cases h:i=k'
    ·rw[ye h];exact V4.mono (by omega)
    ·rw[yd h];exact(nn i hi).2.mono (by omega)
   have zn:0<=(if i=k' then 0 else f' i):=by
    by_cases h:i=k'
    ·rw[ye h];decide
    ·rw[yd h];exact(nn i hi).1
   refine⟨_,(Z1 rfl (qr (yT (i:=0) (show List.Nodup (α:=Str) ["kept", "more", "way"] by decide +kernel) rfl (.inl rfl)) (qr (yT (i:=1) (show List.Nodup (α:=Str) ["kept", "more", "way"] by decide +kernel) rfl (.inl rfl)) JN))),(Sub.trans (Sub.set rfl) (Sub.set rfl)),.inl ⟨sh (if i=k' then 0 else f' i+f' k'*g' i),Qq,(bB (d:=sh (if i=k' then 0 else f' i+f' k'*g' i)) (qm (af hr.units (pq 1 rfl) (YB yF rfl) j5 j4)) (fun hc=>(j3 (pq 0 rfl) ?_)) (fun hc=>(j3 (yV (d:=sh (if i=k' then 0 else f' i+f' k'*g' i)) J6 (hr.mono (by decide)) rfl (yb (pq 0 rfl) (yb (yV (d:=sh (f' k'*g' i)) Jo (hr.mono (by decide)) rfl (yb (pqc 2 rfl) (yb (pq 1 rfl) yn)) ?_) yn)) ?_) ?_))),?_⟩⟩
   ·rw[jR] at hc;have hc:=of_decide_eq_true hc;show sh (if i=k' then 0 else f' i)=sh (if i=k' then 0 else f' i+f' k'*g' i);rw[hc];congr 1;by_cases h:i=k'
    ·rw[ye h,ye h]
    ·rw[yd h,yd h];grind
   ·exact⟨f' k',g' i,s',2*s'+2,rfl,rfl,a.1,(nng i hi).1,a.2,(nng i hi).2,by omega,by omega,trivial⟩
   ·refine⟨_,f' k'*g' i,s'+1,s'+(2*s'+2),rfl,?_,zn,zr a.1 (nng i hi).1,zs,v4 a.2 (nng i hi).2,by omega,by omega,trivial⟩;dsimp only;by_cases h:i=k'
    ·rw[ye h,ye h,h,hg];congr 1;grind
    ·rw[yd h,yd h]
   ·rfl
   ·exact Ql
  ·unfold vb;rw[yf,XO,Yk];rfl
variable (P w K mg base) in
abbrev fw:Prop:=OkF P w K mg base CX0 37 "solved_rows" ["ways", "ends"] (spP K 2 oP)
theorem ux (z:Zs mg)(d:Yn K mg "solved_rows" qI ["ways", "ends"])(kA:nZ P w K mg base)(lj:nP P w K mg base):fw P w K mg base:=by
 refine Yz d jr rfl fun f cdv A outer s H E hr ds r hC B hB=>?_;obtain⟨n,m,s',W,B',rfl,rfl,⟨hn,hm,gW,ge,hb⟩,hp⟩:=hC;have G0:=cj gW ge;have pE:=X7 (B:=B') hp;refine ZL (i:=2) (SX:=yi qI) (XN:=["ways", "ends", "rows", "k", "found"]) (N:=["k", "ways", "ends"]) (nt:=1) (caps:=[0,1]) (pre:=(fun i=>tb i fun r=>shR (n+m) (wM n W B' r)))  ⟨rfl,by decide +kernel,by decide +kernel,by decide +kernel,rfl,by decide +kernel⟩ jr.nd rfl (.inl rfl)  (QR (n:=n) z.range rfl (Va z.len rfl (pqc 1 rfl)) ?_ ?_) ?_ ?_ ?_ ?_
 ·rw[Yk]
 ·omega
 ·intro i hi;rw[YS] at hi;rw[Yk];unfold sizeLine;omega
 ·rfl
 ·intro c i d hd;obtain⟨hi,rfl⟩:=jc hd;rw[YV];refine⟨_,(yT (i:=0) (show List.Nodup (α:=Str) ["k", "ways", "ends"] by decide +kernel) rfl (.inl rfl)),(Sub.set rfl),.inl ⟨shR (n+m) (wM n W B' i),Qq,(j3 (iP (PF3.p (JZ z.list rfl (QS (d:=shR n (W i)) (pqc 1 rfl) (pq 0 rfl) ?_) (.inl rfl))) (PF3.p (JZ z.list rfl (QS (d:=shR m (B' i)) (pqc 2 rfl) (pq 0 rfl) ?_) (.inl rfl))) ?_) ?_),?_⟩⟩
  ·exact zU hi
  ·exact zU hi
  ·rw[Yk,Yk];unfold sizeLine;omega
  ·exact congrArg D.lst rj
  ·exact Ql
 refine jP PassesOwn.never rfl (QR (n:=n) z.range rfl (Va z.len rfl (pqc 1 rfl)) ?_ ?_) (fun i Γ _=>∃ a b,Γ=[some (shM n n W),some (shM n m B'),some (shM n (n+m) (EK (wM n W B') i)),a,b]) ?_ ?_ ?_
 ·rw[Yk]
 ·omega
 ·refine⟨none,none,?_⟩;rw[YS];rfl
 ·rintro k d Γ Ω hd ⟨a,b,rfl⟩;obtain⟨hk,rfl⟩:=jc hd;rw[YV];have Gk:=G0.at (qV n m) k (by omega) fun j hj=>pE j (by omega);have hs:4*sK s' k+3<=big:=Ye (show sK s' (k+1)<=sK s' n from mf (by omega)) hb;refine⟨_,(yT (i:=3) jr.nd rfl (.inr rfl)),?_⟩;refine YC (i:=4) jr.nd rfl (.inr rfl) (yV (d:=shR (n+m) (fun j=>if j=k then 0 else EK (wM n W B') k k j / (1 - EK (wM n W B') k k k))) kA (hr.mono (by decide)) rfl (yb (QS (d:=shR (n+m) (EK (wM n W B') k k)) (pq 2 rfl) (pqc 3 rfl) ?_) (yb (pqc 3 rfl) yn)) ?_) ?_
  ·exact zU hk
  ·exact⟨n+m,k,sK s' k,EK (wM n W B') k k,rfl,rfl,by omega,by omega,fun j hj=>Gk k j hk hj,hs,pE k hk⟩
  refine ZL (i:=2) (SX:=yi qI) (XN:=["ways", "ends", "rows", "k", "found"]) (N:=["place", "row", "k", "found"]) (nt:=2) (caps:=[3,4]) (pre:=(fun i=>tb i fun r=>shR (n+m) (zP (EK (wM n W B') k) k r)))  ⟨rfl,by decide +kernel,by decide +kernel,by decide +kernel,rfl,by decide +kernel⟩ jr.nd rfl (.inl rfl)  (fk z.enumerate rfl (pq 2 rfl)) ?_ ?_ ?_ ?_
  ·intro i hi;unfold Vy at hi;rw[jK,Yk] at hi;rw[Yk];unfold sizeLine;omega
  ·rfl
  ·intro c i d hd;unfold Vy at hd;rw[dJ] at hd;have hi:i<n:=by
    have:=(yh.mp hd).1
    rwa [Yk] at this
   rw[ja hi] at hd;cases hd;refine⟨_,(Z1 rfl (qr (yT (i:=0) (show List.Nodup (α:=Str) ["place", "row", "k", "found"] by decide +kernel) rfl (.inl rfl)) (qr (yT (i:=1) (show List.Nodup (α:=Str) ["place", "row", "k", "found"] by decide +kernel) rfl (.inl rfl)) JN))),(Sub.trans (Sub.set rfl) (Sub.set rfl)),.inl ⟨shR (n+m) (zP (EK (wM n W B') k) k i),Qq,(bB (d:=shR (n+m) (zP (EK (wM n W B') k) k i)) (qm (U8 (pq 0 rfl) (pqc 2 rfl))) (fun hc=>(j3 (pqc 3 rfl) ?_)) (fun hc=>(j3 (yV (d:=shR (n+m) (zP (EK (wM n W B') k) k i)) lj (hr.mono (by decide)) rfl (yb (pq 1 rfl) (yb (pqc 2 rfl) (yb (pqc 3 rfl) yn))) ?_) ?_))),?_⟩⟩
   ·have hc:=of_decide_eq_true hc;have hc:i=k:=by omega
    subst hc;refine vO fun j hj=>?_;unfold zP;rw[ye rfl]
   ·have hc:=of_decide_eq_false hc;have hc:¬ i=k:=by omega
    refine⟨n+m,k,sK s' k,EK (wM n W B') k i,_,rfl,?_,by omega,by omega,fun j hj=>Gk i j hi hj,fun j hj=>?_,hs,ye rfl⟩
    ·refine vO fun j hj=>?_;unfold zP;rw[yd hc];by_cases h:j=k
     ·rw[ye h,ye h]
     ·rw[yd h,yd h,yd h]
    ·have x:=(Gk.step hk (by omega) (pE k hk)) k j hk hj;dsimp only;by_cases h:j=k
     ·rw[ye h];exact⟨by decide,V4.mono (by omega)⟩
     ·rw[yd h];exact⟨WJ (Gk k j hk hj).1 (vq (pE k hk)),(aL (Gk k j hk hj).2 (Xc VA (Gk k k hk (by omega)).2) (vq (pE k hk))).mono (by omega)⟩
   ·rfl
   ·exact Ql
  refine Yb ?_;unfold Vy;rw[jK,Yk];exact⟨_,_,rfl⟩
 ·rintro Γ Ω ⟨a,b,rfl⟩;rw[YS];refine Y8 (PF3.p (qQ (SX:=yi qI) (XN:=["ways", "ends", "rows", "k", "found"]) (N:=["row", "ends"]) (nt:=1) (caps:=[1]) (pre:=(fun i=>tb i fun r=>shR m (fun j=>EK (wM n W B') n r (n+j)))) ⟨rfl,by decide +kernel,by decide +kernel,by decide +kernel,rfl,by decide +kernel⟩ (qW (pq 2 rfl)) ?_ ?_ ?_)) ?_
  ·intro i hi;rw[Yk] at hi ⊢;unfold sizeLine;omega
  ·rfl
  ·intro c i d hd;have hi:i<n:=by
    have:=(yh.mp hd).1
    rwa [Yk] at this
   rw[ja hi] at hd;cases hd;refine⟨_,(yT (i:=0) (show List.Nodup (α:=Str) ["row", "ends"] by decide +kernel) rfl (.inl rfl)),(Sub.set rfl),.inl ⟨shR m (fun j=>EK (wM n W B') n i (n+j)),Qq,(j3 (PF3.p (Ky (pq 0 rfl) (ac (Va z.len rfl (pqc 1 rfl))) XV)) ?_),?_⟩⟩
   ·rw[Yk,W8 (by rw[Yk];omega),mH];rfl
   ·exact Ql
  ·rw[Yk];rfl
end
section
variable {P:Program}{w:World}{K:W.Frag}{mg:Str->Option Value}{base:Heap}{C_Grammar C_Sums C_Parts:Addr}
variable (P w K mg base) in
abbrev iR:Prop:=OkF P w K mg base CX0 2 "is_letter" ["sign"] (spP K 1 gj)
theorem wn  (d:Yn K mg "is_letter" j9 ["sign"])  : iR P w K mg base:=by
 refine Yz d Wn rfl fun f cdv A outer s H E hr ds r hC B hB=>?_;obtain⟨c,rfl,rfl⟩:=hC;refine Y8 (sZ (xp UN (pq 0 rfl) UN) fun _=>(xl (xp UN (pq 0 rfl) UN))) ?_;show D.bl ((leS "a" ⟨#[c]⟩&&leS ⟨#[c]⟩ "z")||(leS "A" ⟨#[c]⟩&&leS ⟨#[c]⟩ "Z"))=D.bl (vY c);rw[nY (n:=97) (by decide +kernel),nG (n:=122) (by decide +kernel),nY (n:=65) (by decide +kernel),nG (n:=90) (by decide +kernel)];rfl
variable (P w K mg base) in
abbrev gO:Prop:=OkF P w K mg base CX0 3 "is_symbol" ["text"] (spP K 1 nl)
theorem wa (z:Zs mg)(Qk:ql K mg "MOST_LETTERS" (.int 8))(d:Yn K mg "is_symbol" jx ["text"])(xT:iR P w K mg base):gO P w K mg base:=by
 refine Yz d wR rfl fun f cdv A outer s H E hr ds r hC B hB=>?_;obtain⟨x,rfl,rfl,h1,h2⟩:=hC;have hl:x.length=x.cps.size:=rfl;refine Y8 (aU (cz yB (px z.len rfl (pq 0 rfl) ?_) (YB Qk rfl)) fun _=>(xl (nQ rfl z.all rfl (PF3.p (qQ (SX:=yi jx) (XN:=["text"]) (N:=["sign"]) (nt:=1) (caps:=[]) (pre:=(fun i=>((x.cps.toList.take i).map vY).map D.bl)) ⟨rfl,by decide +kernel,by decide +kernel,by decide +kernel,rfl,by decide +kernel⟩ (pX (pq 0 rfl) ?_) ?_ ?_ ?_))))) ?_
 ·rw[hl,sizeLine_eq];omega
 ·exact h2
 ·intro i hi;rw[yf,yf,y6,sizeLine_eq];simp only[Array.length_toList];omega
 ·rfl
 ·intro c i d hd;obtain⟨n,hn,rfl⟩:=cv hd;refine⟨_,(yT (i:=0) (show List.Nodup (α:=Str) ["sign"] by decide +kernel) rfl (.inl rfl)),(Sub.set rfl),.inl ⟨.bl (vY n),Qq,(yV (d:=.bl (vY n)) xT (hr.mono (by decide)) rfl (yb (pq 0 rfl) yn) ?_),?_⟩⟩
  ·exact⟨n,rfl,rfl⟩
  ·dsimp only;rw[Yo hn,yr,yr];rfl
 show D.bl _=D.bl _;congr 1;rw[dc,←Array.length_toList,yK,List.all_map,Yq,uy];simp only[Yr,YZ,List.all_eq_true,kK];rw[hl];constructor
 ·intro h;exact⟨by omega,by omega,fun c hc=>h.2 c hc⟩
 ·intro h;exact⟨⟨by omega,by omega⟩,fun c hc=>h.2.2 c hc⟩
variable (P w K mg base) in
abbrev iw:Prop:=OkF P w K mg base CX0 4 "check_symbol" ["text"] (spP K 1 gi)
theorem kY (z:Zs mg)(Qk:ql K mg "MOST_LETTERS" (.int 8))(d:Yn K mg "check_symbol" QT ["text"])(xQ:gO P w K mg base):iw P w K mg base:=by
 refine Yz d k8 rfl fun f cdv A outer s H E hr ds r hC B hB=>?_;obtain⟨x,rfl,rfl,hx⟩:=hC;have e:wC x=true:=uy.mpr hx;refine JX (bJ (Z4 (yV (d:=.bl (wC x)) xQ (hr.mono (by decide)) rfl (yb (pq 0 rfl) yn) ?_))) ?_ ?_
 ·exact⟨x,rfl,rfl,by have:=hx.2.1;omega,dH hx⟩
 ·intro hk;rw[e] at hk;exact absurd hk (by decide)
 ·intro _;exact Yb (Yb rfl)
variable (P w K mg base) in
abbrev gL:Prop:=OkF P w K mg base CX0 5 "check_rule" ["rule"] (spP K 1 rF)
theorem Ub (z:Zs mg)(yF:ql K mg "NOUGHT" (sh 0))(jy:ql K mg "MOST_SYMBOLS" (.int 4))(d:Yn K mg "check_rule" jF ["rule"])(vI:iw P w K mg base):gL P w K mg base:=by
 refine Yz d vX rfl fun f cdv A outer s H E hr ds r hC B hB=>?_;obtain⟨r,rfl,rfl,h1,h2,h3,h4,h5⟩:=hC;refine wx (yV (d:=.non) vI (hr.mono (by decide)) rfl (yb (Yg (pq 0 rfl) yB rfl) yn) ?_) ?_
 ·exact⟨r.1,rfl,rfl,h1⟩
 refine JX (PW3.t (hW (qm (cw (zf z.len rfl (Yg (pq 0 rfl) yB rfl)) yB)) fun _=>(av (qm (KO (zf z.len rfl (Yg (pq 0 rfl) yB rfl)) (YB jy rfl)))))) ?_ ?_
 ·intro hk;rw[show(r.2.1.map D.str).length=r.2.1.length from yf _] at hk;simp at hk;omega
 ·intro _;refine Yb ?_;refine jP PassesOwn.never rfl (nV (Yg (pq 0 rfl) yB rfl)) (fun i Γ Ω=>∃ x,Γ=[some (Qo r),x]/\Ω=[]) ⟨_,rfl,rfl⟩ ?_ ?_
  ·rintro i d Γ Ω hd ⟨x,rfl,rfl⟩;obtain⟨y,hy,rfl⟩:=jI hd;refine⟨_,(yT (i:=1) vX.nd rfl (.inl rfl)),?_⟩;refine wx (yV (d:=.non) vI (hr.mono (by decide)) rfl (yb (pq 1 rfl) yn) ?_) ?_
   ·exact⟨y,rfl,rfl,h4 y (yq hy)⟩
   exact Yb ⟨_,rfl,rfl⟩
  ·rintro Γ Ω ⟨x,rfl,rfl⟩;refine JX (qm (af hr.units (Yg (pq 0 rfl) yB rfl) (YB yF rfl) j5 j4)) ?_ ?_
   ·intro hk;rw[jR] at hk;rw[of_decide_eq_true hk] at h5;exact absurd h5 (by decide)
   ·intro _;exact Yb (Yb rfl)
variable (P w K mg base) in
abbrev gQ:Prop:=OkF P w K mg base CX0 6 "check_rules" ["rules"] (spP K 1 mY)
theorem ui (z:Zs mg)(Jm:ql K mg "MOST_RULES" (.int 30))(d:Yn K mg "check_rules" Q6 ["rules"])(WA:gL P w K mg base):gQ P w K mg base:=by
 refine Yz d zb rfl fun f cdv A outer s H E hr ds r hC B hB=>?_;obtain⟨rs,rfl,rfl,h1,h2,h3,h4⟩:=hC;refine JX (PW3.t (hW (qm (cw (Va z.len rfl (pq 0 rfl)) yB)) fun _=>(av (qm (KO (Va z.len rfl (pq 0 rfl)) (YB Jm rfl)))))) ?_ ?_
 ·intro hk;rw[YX] at hk;simp at hk;omega
 ·intro _;refine Yb ?_;refine JP (i:=1) zb.nd rfl (.inl rfl) (Xh fun l=>?_);refine jP PassesOwn.never rfl (qW (pq 0 rfl)) (fun i Γ Ω=>∃ x,Γ=[some (.lst (yG rs)),some (.raw (.ref l)),x]/\Ω=[(l,Jg P w K l (KJ (rs.take i)))]) ⟨_,rfl,rfl⟩ ?_ ?_
  ·rintro i d Γ Ω hd ⟨x,rfl,rfl⟩;obtain⟨r,hr',rfl⟩:=qF hd;have hn:=v6 (f:=fun r:yL=>(r.1,r.2.1)) h4 hr';refine⟨_,(yT (i:=2) zb.nd rfl (.inl rfl)),?_⟩;refine wx (yV (d:=.non) WA (hr.mono (by decide)) rfl (yb (pq 2 rfl) yn) ?_) ?_
   ·exact⟨r,rfl,rfl,h3 r (yq hr')⟩
   refine bL (rQ hr.units (YH (QE (yb (Yg (pq 2 rfl) yB rfl) (yb (Yg (pq 2 rfl) yB rfl) yn))) ⟨uX r,bG r,YH (pq 1 rfl) ⟨l,_,rfl,yD.mpr rfl,fun hk=>?_,fun _=>?_⟩⟩))
   ·rw[xu hn] at hk;cases hk
   ·refine Yb ?_;refine eM hr.units (YH sQ (YH (pq 1 rfl) ⟨l,rfl,YH (QE (yb (Yg (pq 2 rfl) yB rfl) (yb (Yg (pq 2 rfl) yB rfl) yn))) ⟨uX r,_,[],bG r,List.Perm.refl _,?_,?_⟩⟩))
    ·unfold KJ;rw[yf,y6,sizeLine_eq];omega
    ·refine Yb ⟨_,rfl,?_⟩;rw[fS hn,Yo hr'];rfl
  ·rintro Γ Ω ⟨x,rfl,rfl⟩;exact Yb rfl
variable (P w K mg base) in
abbrev iN:Prop:=OkF P w K mg base CX0 2 "check_start" ["start", "heads"] (spP K 2 lN)
theorem K9  (d:Yn K mg "check_start" Q5 ["start", "heads"])  : iN P w K mg base:=by
 refine Yz d KD rfl fun f cdv A outer s H E hr ds r hC B hB=>?_;obtain⟨x,hs,rfl,rfl,hx⟩:=hC;refine JX (qm (Kf hr.units (pq 0 rfl) (pq 1 rfl) (.inl rfl) ?_)) ?_ ?_
 ·exact Zk
 ·intro hk;rw[zI,yO hx] at hk;cases hk
 ·intro _;exact Yb (Yb rfl)
variable (P w K mg base) in
abbrev gX:Prop:=OkF P w K mg base CX0 34 "check_sums" ["heads", "rules"] (spP K 2 rE)
theorem Ue (yF:ql K mg "NOUGHT" (sh 0))(jQ:ql K mg "ONE" (sh 1))(d:Yn K mg "check_sums" jE ["heads", "rules"])(J6:UV P w K mg base):gX P w K mg base:=by
 refine Yz d jW rfl fun f cdv A outer s H E hr ds r hC B hB=>?_;obtain⟨hs,rs,rfl,rfl,h1,h2,h3⟩:=hC;refine jP PassesOwn.never rfl (qW (pq 0 rfl)) (fun i Γ Ω=>∃ x2 x3 x4,Γ=[some (.lst (Yi hs)),some (.lst (yG rs)),x2,x3,x4]/\Ω=[]) ⟨_,_,_,rfl,rfl⟩ ?_ ?_
 ·rintro i d Γ Ω hd ⟨x2,x3,x4,rfl,rfl⟩;obtain⟨h,hh,rfl⟩:=jI hd;refine⟨_,(yT (i:=2) jW.nd rfl (.inl rfl)),?_⟩;refine YC (i:=3) jW.nd rfl (.inl rfl) (YB yF rfl) ?_;refine jP PassesOwn.never rfl (qW (pq 1 rfl)) (fun j Γ Ω=>∃ (t:Rat) (x4:Option D),(0<=t/\Sz (1+j*1001) t)/\t=zF h (rs.take j)/\Γ=[some (.lst (Yi hs)),some (.lst (yG rs)),some (.str h),some (sh t),x4]/\Ω=[]) ⟨0,_,⟨by decide,V4⟩,rfl,rfl,rfl⟩ ?_ ?_
  ·rintro j d Γ Ω hd ⟨t,x4,ht,et,rfl,rfl⟩;obtain⟨r,hr',rfl⟩:=qF hd;have hj:j<rs.length:=(yh.mp hr').1;have hq:=h3 r (yq hr');have ef:zF h (rs.take (j+1))=UX h t r:=by rw[Yo hr'];unfold zF at et ⊢;rw[qg,←et];rfl
   have ht':=mm ht hq;refine⟨_,(yT (i:=4) jW.nd rfl (.inl rfl)),?_⟩;refine JX (qm (cc (Yg (pq 4 rfl) yB rfl) (pq 2 rfl))) ?_ ?_
   ·intro hk;have hk:=of_decide_eq_true hk;refine YC (i:=3) jW.nd rfl (.inl rfl) (yV (d:=sh (t+r.2.2)) J6 (hr.mono (by decide)) rfl (yb (pq 3 rfl) (yb (Yg (pq 4 rfl) yB rfl) yn)) ?_) ?_
    ·exact⟨t,r.2.2,1+j*1001,1000,rfl,rfl,ht.1,hq.1,ht.2,hq.2,by have:big=67108864:=rfl;omega,by decide,trivial⟩
    exact Yb (Yb ⟨_,_,ht',by rw[ef];exact(ye hk).symm,rfl,rfl⟩)
   ·intro hk;have hk:=of_decide_eq_false hk;exact Yb (Yb ⟨t,_,⟨ht.1,ht.2.mono (by omega)⟩,by rw[ef];exact(yd hk).symm,rfl,rfl⟩)
  ·rintro Γ Ω ⟨t,x4,ht,et,rfl,rfl⟩;rw[YX,yK,h2 h (yq hh)] at et;subst et;refine JX (qm (Xi hr.units (pq 3 rfl) (YB jQ rfl) j5 j4)) ?_ ?_
   ·intro hk;rw[jR] at hk;simp at hk
   ·intro _;exact Yb (Yb ⟨_,_,_,rfl,rfl⟩)
 ·rintro Γ Ω ⟨x2,x3,x4,rfl,rfl⟩;exact Yb rfl
variable (P w K mg base) in
abbrev gN:Prop:=OkF P w K mg base CX0 2 "heads_of" ["rules"] (spP K 1 lG)
theorem W4  (d:Yn K mg "heads_of" JF ["rules"])  : gN P w K mg base:=by
 refine Yz d vh rfl fun f cdv A outer s H E hr ds r hC B hB=>?_;obtain⟨rs,rfl,rfl,h1⟩:=hC;refine KH (i:=1) vh.nd rfl (.inl rfl) (ZD yn) fun l=>?_;refine jP PassesOwn.never rfl (qW (pq 0 rfl)) (fun i Γ Ω=>∃ (acc:List Str) (x:Option D),acc=(rs.take i).foldl QG []/\acc.length<=i/\Γ=[some (.lst (yG rs)),some (.raw (.ref l)),x]/\Ω=[(l,Q3 K (Yi acc))]) ⟨[],_,rfl,yo _,rfl,rfl⟩ ?_ ?_
 ·rintro i d Γ Ω hd ⟨acc,x,ea,la,rfl,rfl⟩;obtain⟨r,hr',rfl⟩:=qF hd;have hi:i<rs.length:=(yh.mp hr').1;have en:(rs.take (i+1)).foldl QG []=QG acc r:=by rw[Yo hr',qg,←ea];rfl
  refine⟨_,(yT (i:=2) vh.nd rfl (.inl rfl)),?_⟩;refine bL (wj (Γ':=[some (.lst (yG rs)),some (.lst (Yi acc)),some (Qo r)]) (qm (Kf hr.units (Yg (pq 2 rfl) yB rfl) (pq 1 rfl) (.inl rfl) ?_)) (zk (i:=1) jC rfl (yD.mpr rfl) cH) ⟨fun hk=>?_,fun hk=>?_⟩)
  ·exact Zk
  ·rw[zI] at hk;have hn:r.1∉acc:=by simpa using hk
   refine vo (i:=1) rfl (.inl rfl) rfl (Yg (pq 2 rfl) yB rfl) (by rw[qD,sizeLine_eq];omega) ?_;refine Yb (Yb ⟨acc++[r.1],_,?_,?_,rfl,?_⟩)
   ·rw[en];exact(yd hn).symm
   ·rw[Yh];exact Nat.succ_le_succ la
   ·unfold Yi;rw[yr];rfl
  ·rw[zI] at hk;have hn:r.1∈acc:=by simpa using hk
   exact Yb (Yb ⟨acc,_,by rw[en];exact(ye hn).symm,by omega,rfl,rfl⟩)
 ·rintro Γ Ω ⟨acc,x,ea,la,rfl,rfl⟩;rw[YX,yK] at ea;refine zj (i:=1) rfl ?_;refine Y8 (pq 1 rfl) ?_;rw[ea];rfl
variable (P w K mg base) in
abbrev az:Prop:=OkF P w K mg base CX0 2 "is_live_body" ["body", "heads", "live"] (spP K 3 au)
theorem Kc (z:Zs mg)(d:Yn K mg "is_live_body" Qi ["body", "heads", "live"])  : az P w K mg base:=by
 refine Yz d kU rfl fun f cdv A outer s H E hr ds r hC B hB=>?_;obtain⟨b,hs,L,rfl,rfl,h1⟩:=hC;refine Y8 (nQ rfl z.all rfl (PF3.p (qQ (SX:=yi Qi) (XN:=["body", "heads", "live"]) (N:=["symbol", "heads", "live"]) (nt:=1) (caps:=[1,2]) (pre:=(fun i=>((b.take i).map fun x=>decide (x∈L)||!decide (x∈hs)).map D.bl)) ⟨rfl,by decide +kernel,by decide +kernel,by decide +kernel,rfl,by decide +kernel⟩ (nV (pq 0 rfl)) ?_ ?_ ?_))) ?_
 ·intro i hi;rw[yf,yf,y6,sizeLine_eq];omega
 ·rfl
 ·intro c i d hd;obtain⟨x,hx,rfl⟩:=jI hd;refine⟨_,(yT (i:=0) (show List.Nodup (α:=Str) ["symbol", "heads", "live"] by decide +kernel) rfl (.inl rfl)),(Sub.set rfl),.inl ⟨.bl (decide (x∈L)||!decide (x∈hs)),Qq,(j3 (sZ (Vw (pB hr.units (pq 0 rfl) (pqc 2 rfl) (.inl rfl) ?_)) fun _=>(xl (Vw (Kf hr.units (pq 0 rfl) (pqc 1 rfl) (.inl rfl) ?_)))) ?_),?_⟩⟩
  ·exact Zk
  ·exact Zk
  ·rw[zI,zI]
  ·dsimp only;rw[Yo hx,yr,yr];rfl
 ·rw[show(b.map D.str).length=b.length from yf _,yK];show D.bl ((b.map fun x=>decide (x∈L)||!decide (x∈hs)).all id)=D.bl (Q9 hs L b);rw[List.all_map];rfl
variable (P w K mg base) in
abbrev fy:Prop:=OkF P w K mg base CX0 3 "has_live_body" ["head", "rules", "heads", "live"] (spP K 4 dg)
theorem VT (z:Zs mg)(d:Yn K mg "has_live_body" qY ["head", "rules", "heads", "live"])(Jp:az P w K mg base):fy P w K mg base:=by
 refine Yz d V2 rfl fun f cdv A outer s H E hr ds r hC B hB=>?_;obtain⟨h,rs,hs,L,rfl,rfl,h1,h2⟩:=hC;refine Y8 (sU rfl z.any rfl (PF3.p (qQ (SX:=yi qY) (XN:=["head", "rules", "heads", "live"]) (N:=["rule", "head", "heads", "live"]) (nt:=1) (caps:=[0,2,3]) (pre:=(fun i=>((rs.take i).map fun r=>decide (r.1=h)&&Q9 hs L r.2.1).map D.bl)) ⟨rfl,by decide +kernel,by decide +kernel,by decide +kernel,rfl,by decide +kernel⟩ (qW (pq 1 rfl)) ?_ ?_ ?_))) ?_
 ·intro i hi;rw[yf,yf,y6,sizeLine_eq];omega
 ·rfl
 ·intro c i d hd;obtain⟨r,hr',rfl⟩:=qF hd;refine⟨_,(yT (i:=0) (show List.Nodup (α:=Str) ["rule", "head", "heads", "live"] by decide +kernel) rfl (.inl rfl)),(Sub.set rfl),.inl ⟨.bl (decide (r.1=h)&&Q9 hs L r.2.1),Qq,(aU (Vw (cc (Yg (pq 0 rfl) yB rfl) (pqc 1 rfl))) fun _=>(xl (yV (d:=.bl (Q9 hs L r.2.1)) Jp (hr.mono (by decide)) rfl (yb (Yg (pq 0 rfl) yB rfl) (yb (pqc 2 rfl) (yb (pqc 3 rfl) yn))) ?_))),?_⟩⟩
  ·exact⟨r.2.1,hs,L,rfl,rfl,h2 r (yq hr')⟩
  ·dsimp only;rw[Yo hr',yr,yr];rfl
 ·rw[YX,yK];show D.bl ((rs.map fun r=>decide (r.1=h)&&Q9 hs L r.2.1).any id)=D.bl (jY rs hs L h);rw[List.any_map];rfl
variable (P w K mg base) in
abbrev iC:Prop:=OkF P w K mg base CX0 4 "live_of" ["heads", "rules"] (spP K 2 eR)
theorem Xe (z:Zs mg)(d:Yn K mg "live_of" Jy ["heads", "rules"])(Z7:fy P w K mg base):iC P w K mg base:=by
 refine Yz d JE rfl fun f cdv A outer s H E hr ds r hC B hB=>?_;obtain⟨hs,rs,rfl,rfl,h1,h2,h3,h4⟩:=hC;refine YC (i:=2) JE.nd rfl (.inr rfl) (nC yn) ?_;refine YC (i:=3) JE.nd rfl (.inl rfl) sQ ?_;refine wm PassesOwn.never (fun Γ _=>∃ (L:List Str) (b:Bool) (x:Option D),Γ=[some (.lst (Yi hs)),some (.lst (yG rs)),some (.lst (Yi L)),some (.bl b),x]/\((b=true/\K6 hs rs L)∨(b=false/\L=Jk hs rs))) (fun Γ _=>match Γ with|[_,_,some (.lst ds),some (.bl b),_]=>if b then hs.length+1 - ds.length else 0|_=>0) ⟨[],true,none,rfl,.inl ⟨rfl,dF⟩⟩ ?_;rintro Γ Ω ⟨L,b,x,rfl,hb⟩;refine⟨_,(Z4 (pq 3 rfl)),fun hk=>?_,fun hk=>?_⟩
 ·obtain⟨rfl,st⟩:b=true/\K6 hs rs L:=hb.resolve_right fun h=>by rw[h.1] at hk;cases hk
  refine ZL (i:=4) (SX:=yi Jy) (XN:=["heads", "rules", "live", "grown", "found"]) (N:=["head", "heads", "rules", "live"]) (nt:=1) (caps:=[0,1,2]) (pre:=(fun i=>Yi ((hs.take i).filter (jY rs hs L))))  ⟨rfl,by decide +kernel,by decide +kernel,by decide +kernel,rfl,by decide +kernel⟩ JE.nd rfl (.inl rfl)  (qW (pqc 0 rfl)) ?_ ?_ ?_ ?_
  ·intro i hi;rw[qD,sizeLine_eq];have:=Ym (jY rs hs L) (hs.take i);rw[y6] at this;omega
  ·rfl
  ·intro c i d hd;obtain⟨h,hh,rfl⟩:=jI hd;cases q:jY rs hs L h with
   |true=>
    refine⟨_,(yT (i:=0) (show List.Nodup (α:=Str) ["head", "heads", "rules", "live"] by decide +kernel) rfl (.inl rfl)),(Sub.set rfl),.inl ⟨.str h,(v8 (Z4 (yV (d:=.bl true) Z7 (hr.mono (by decide)) rfl (yb (pq 0 rfl) (yb (pqc 2 rfl) (yb (pqc 1 rfl) (yb (pqc 3 rfl) yn)))) ?_))),(pq 0 rfl),?_⟩⟩
    ·exact⟨h,rs,hs,L,rfl,by rw[q],h1,h4⟩
    ·show Yi ((hs.take (i+1)).filter (jY rs hs L))=Yi ((hs.take i).filter (jY rs hs L))++[D.str h]
     rw[Yo hh,Yy,Yl q];unfold Yi;rw[yr];rfl
   |false=>
    refine⟨_,(yT (i:=0) (show List.Nodup (α:=Str) ["head", "heads", "rules", "live"] by decide +kernel) rfl (.inl rfl)),(Sub.set rfl),.inr ⟨(v8 (Z4 (yV (d:=.bl false) Z7 (hr.mono (by decide)) rfl (yb (pq 0 rfl) (yb (pqc 2 rfl) (yb (pqc 1 rfl) (yb (pqc 3 rfl) yn)))) ?_))),?_⟩⟩
    ·exact⟨h,rs,hs,L,rfl,by rw[q],h1,h4⟩
    ·show Yi ((hs.take (i+1)).filter (jY rs hs L))=Yi ((hs.take i).filter (jY rs hs L));rw[Yo hh,Yy,Yp (by simp[q])];simp
  rw[qD,yK];refine YC (i:=3) JE.nd rfl (.inl rfl) (Vw (KO (Va z.len rfl (pq 4 rfl)) (Va z.len rfl (pqc 2 rfl)))) ?_;refine YC (i:=2) JE.nd rfl (.inr rfl) (pq 4 rfl) ?_;rw[qD,qD];show W3 _ B [] [some (.lst (Yi hs)),some (.lst (yG rs)),some (.lst (Yi (j8 hs rs L))),some (.bl (decide (((L.length:Nat):Int)<((j8 hs rs L).length:Nat)))),some (.lst (Yi (j8 hs rs L)))] Ω _;have le:=xk st;have lh:(j8 hs rs L).length<=hs.length:=Ym _ _;by_cases g:L.length<(j8 hs rs L).length
  ·rw[yO (by omega)];refine Yb ⟨⟨_,true,_,rfl,.inl ⟨rfl,XZ st⟩⟩,?_⟩;show(if true=true then hs.length+1 - (Yi (j8 hs rs L)).length else 0)<if true=true then hs.length+1 - (Yi L).length else 0
   rw[ye rfl,ye rfl,qD,qD];omega
  ·rw[yC (by omega)];refine Yb ⟨⟨_,false,_,rfl,.inr ⟨rfl,cZ st (by omega) h3⟩⟩,?_⟩;show(if false=true then hs.length+1 - (Yi (j8 hs rs L)).length else 0)<if true=true then hs.length+1 - (Yi L).length else 0
   rw[yd yw,ye rfl,qD];omega
 ·obtain⟨_,rfl⟩:b=false/\L=Jk hs rs:=hb.resolve_left fun h=>by rw[h.1] at hk;cases hk
  refine Y8 (pqc 2 rfl) ?_;rfl
end
section
variable {P:Program}{w:World}{K:W.Frag}{mg:Str->Option Value}{base:Heap}{C_Grammar C_Sums C_Parts:Addr}
variable (P w K mg base C_Grammar) in
abbrev Xw:Prop:=OkI P w K mg base CX0 36 "Grammar" C_Grammar ["self", "start", "rules"] (spI K 3 C_Grammar ng)
theorem aF (z:Zs mg)(yv:ClsG K C_Grammar)(d:zG K mg "Grammar" C_Grammar "Grammar.__init__" qC ["self", "start", "rules"])(Um:gQ P w K mg base)(aQ:gN P w K mg base)(Uo:iN P w K mg base)(Wy:gX P w K mg base)(dX:iC P w K mg base):Xw P w K mg base C_Grammar:=by
 refine bv d vT rfl fun f cdv A outer s H E hr a ds r hC B hB=>?_;obtain⟨st,rs,rfl,rfl,gv⟩:=hC;have l2:=gv.l2;have fl:=Xb (rs:=rs);refine wx (yV (d:=.non) Um (hr.mono (by decide)) rfl (yb (pq 2 rfl) yn) ?_) ?_
 ·exact⟨rs,rfl,rfl,gv.l1,gv.l2,gv.ok,gv.nd⟩
 refine jS (a:=a) (pq 0 rfl) yv.c yv.n_first (YH (pq 1 rfl) ⟨[],[],[],List.Perm.refl _,by simp,by decide,?_⟩);refine jS (a:=a) (pq 0 rfl) yv.c yv.n_kept_rules (YH (PF3.p (JZ z.list rfl (pq 2 rfl) (.inl rfl))) ⟨_,_,[],List.Perm.refl _,by decide,by decide,?_⟩);refine jS (a:=a) (pq 0 rfl) yv.c yv.n_kept_heads (YH (yV (d:=.lst (Yi (y8 rs))) aQ (hr.mono (by decide)) rfl (yb (pq 2 rfl) yn) ⟨rs,rfl,rfl,gv.l2⟩) ⟨_,_,[],List.Perm.refl _,by decide,by decide,?_⟩);refine zL (Wi (L:=true) (d:=.non) (Γ':=[some (.obj C_Grammar ["first", "kept_rules", "kept_heads"] [.str st,.lst (yG rs),.lst (Yi (y8 rs))]),some (.str st),some (.lst (yG rs))]) (yV Uo (hr.mono (by decide)) rfl (yb (pq 1 rfl) (yb (jd (pq 0 rfl) yv.c yv.n_kept_heads rfl) yn)) ⟨st,y8 rs,rfl,rfl,gv.st⟩) (zk (i:=0) jC rfl (yD.mpr rfl) J9) (Y4 zd za) rfl ?_);refine zL (Wi (L:=true) (d:=.non) (Γ':=[some (.obj C_Grammar ["first", "kept_rules", "kept_heads"] [.str st,.lst (yG rs),.lst (Yi (y8 rs))]),some (.str st),some (.lst (yG rs))]) (yV Wy (hr.mono (by decide)) rfl (yb (jd (pq 0 rfl) yv.c yv.n_kept_heads rfl) (yb (pq 2 rfl) yn)) ⟨y8 rs,rs,rfl,rfl,gv.l2,gv.one,fun r hr'=>⟨Yu (gv.ok r hr').2.2.2.2,gv.sz r hr'⟩⟩) (zk (i:=0) jC rfl (yD.mpr rfl) J9) (Y4 zd za) rfl ?_);refine jS (a:=a) (pq 0 rfl) yv.c yv.n_kept_live (Wi (L:=true) (d:=.lst (Yi (Jk (y8 rs) rs))) (Γ':=[some (.obj C_Grammar ["first", "kept_rules", "kept_heads"] [.str st,.lst (yG rs),.lst (Yi (y8 rs))]),some (.str st),some (.lst (yG rs))]) (yV dX (hr.mono (by decide)) rfl (yb (jd (pq 0 rfl) yv.c yv.n_kept_heads rfl) (yb (pq 2 rfl) yn)) ⟨y8 rs,rs,rfl,rfl,gv.l2,by omega,fun r hr'=>XU.mpr (yx.mpr ⟨r,hr',rfl⟩),fun r hr'=>(gv.ok r hr').2.2.1⟩) (zk (i:=0) jC rfl (yD.mpr rfl) J9) (Y4 zd za) xr ⟨_,_,[],List.Perm.refl _,by decide,by decide,?_⟩);exact Yb rfl
variable (P w K mg base C_Grammar) in
abbrev Wh:Prop:=OkM P w K mg base CX0 2 C_Grammar "start" ["self"] (spP K 1 (gx C_Grammar))
theorem km (yv:ClsG K C_Grammar)(d:YD K C_Grammar "start" "Grammar.start" Qu ["self"])  : Wh P w K mg base C_Grammar:=by
 refine zM d V7 rfl fun f cdv A outer s H E hr ds r hC B hB=>?_;obtain⟨st,rs,rfl,rfl⟩:=hC;refine Y8 (jd (pq 0 rfl) yv.c yv.n_first rfl) ?_;rfl
variable (P w K mg base C_Grammar) in
abbrev V1:Prop:=OkM P w K mg base CX0 2 C_Grammar "rules" ["self"] (spF K 1 (ir C_Grammar))
theorem V9 (z:Zs mg)(yv:ClsG K C_Grammar)(d:YD K C_Grammar "rules" "Grammar.rules" Qr ["self"])  : V1 P w K mg base C_Grammar:=by
 refine KZ d VY rfl fun f cdv A outer s H E hr ds gs hC B hB=>?_;obtain⟨st,rs,rfl,rfl⟩:=hC;exact XY (Vi (JZ z.list rfl (jd (pq 0 rfl) yv.c yv.n_kept_rules rfl) (.inl rfl)) fun p=>⟨p,rfl,rfl⟩)
variable (P w K mg base C_Grammar) in
abbrev Xy:Prop:=OkM P w K mg base CX0 2 C_Grammar "heads" ["self"] (spF K 1 (fz C_Grammar))
theorem V8 (z:Zs mg)(yv:ClsG K C_Grammar)(d:YD K C_Grammar "heads" "Grammar.heads" Qt ["self"])  : Xy P w K mg base C_Grammar:=by
 refine KZ d VX rfl fun f cdv A outer s H E hr ds gs hC B hB=>?_;obtain⟨st,rs,rfl,rfl⟩:=hC;exact XY (Vi (JZ z.list rfl (jd (pq 0 rfl) yv.c yv.n_kept_heads rfl) (.inl rfl)) fun p=>⟨p,rfl,rfl⟩)
variable (P w K mg base C_Grammar) in
abbrev XQ:Prop:=OkM P w K mg base CX0 2 C_Grammar "live" ["self"] (spF K 1 (lE C_Grammar))
theorem kX (z:Zs mg)(yv:ClsG K C_Grammar)(d:YD K C_Grammar "live" "Grammar.live" QQ ["self"])  : XQ P w K mg base C_Grammar:=by
 refine KZ d k9 rfl fun f cdv A outer s H E hr ds gs hC B hB=>?_;obtain⟨st,rs,rfl,rfl⟩:=hC;exact XY (Vi (JZ z.list rfl (jd (pq 0 rfl) yv.c yv.n_kept_live rfl) (.inl rfl)) fun p=>⟨p,rfl,rfl⟩)
end
section
variable {P:Program}{w:World}{K:W.Frag}{mg:Str->Option Value}{base:Heap}{C_Grammar C_Sums C_Parts:Addr}
variable (P w K mg base) in
abbrev Wb:Prop:=OkF P w K mg base CX0 34 "sum_of_products" ["pairs"] (spP K 1 nL)
theorem Vf (ht:P.given.tree=none)(yF:ql K mg "NOUGHT" (sh 0))(d:Yn K mg "sum_of_products" qx ["pairs"])(Qg:bQ P w K mg base)(vS:bW P w K mg base):Wb P w K mg base:=by
 refine Yz d YL rfl fun f cdv A outer s H E hr ds r hC B hB=>?_;obtain⟨ps,s',rfl,rfl,hp,hb,hs⟩:=hC;have py:Pyl (cx0 P w K mg base ["pairs", "top", "bottom", "one", "other", "below", "divisor"] "sum_of_products" qx f cdv A outer s H E):=(KN ht rfl rfl hr (by decide)).nox;refine YC (i:=1) YL.nd rfl (.inl rfl) yB ?_;refine YC (i:=2) YL.nd rfl (.inl rfl) yB ?_;refine jP PassesOwn.never rfl (qW (pq 0 rfl)) (fun i Γ _=>∃ (t b:Int) (x3 x4 x5 x6:Option D),SopOk s' (ps.take i) i t b/\Γ=[some (.lst (ps.map ju)),some (.int t),some (.int b),x3,x4,x5,x6]) ⟨0,1,_,_,_,_,n8,rfl⟩ ?_ ?_
 ·rintro i d Γ Ω hd ⟨t,b,x3,x4,x5,x6,so,rfl⟩;obtain⟨p,hp',rfl⟩:=wQ hd;have hi:i<ps.length:=(yh.mp hp').1;have hq:=hp p (yq hp');have hB:i*(2*s'+1)+1<=big:=by
   refine Ye ?_ hb;unfold cJ;have:i*(2*s'+1)<=ps.length*(4*s'+2):=qK (Nat.le_of_lt hi) (by omega);omega
  have hB':big=67108864:=rfl;have he:0<(p.1.den:Int)*(p.2.den:Int):=jm (My.den_pos' _) (My.den_pos' _);have g0:0<My.G b ((p.1.den:Int)*(p.2.den:Int)):=My.G_pos he;have eb:((p.1.den:Int)*(p.2.den:Int)).natAbs<2 ^ (s'+s'):=YY (QY hq.1.2) (QY hq.2.2);have c1:=KC (a:=b) (g:=My.G b ((p.1.den:Int)*(p.2.den:Int))) (yz so.b0) g0;have c2:=KC (a:=(p.1.den:Int)*(p.2.den:Int)) (g:=My.G b ((p.1.den:Int)*(p.2.den:Int))) (yz he) g0;have b1:=vk c1 so.bb;have b2:=vk c2 eb;have bn:(p.1.num*p.2.num).natAbs<2 ^ (s'+s'):=YY hq.1.2.1 hq.2.2.1;refine⟨_,(Z1 rfl (qr (yT (i:=3) YL.nd rfl (.inl rfl)) (qr (yT (i:=4) YL.nd rfl (.inl rfl)) JN))),?_⟩;refine JX (PW3.t (Xp (qm (Xi hr.units (pq 3 rfl) (YB yF rfl) j5 j4)) fun _=>(wd (qm (Xi hr.units (pq 4 rfl) (YB yF rfl) j5 j4))))) ?_ ?_
  ·intro hk;refine YC (i:=5) YL.nd rfl (.inl rfl) (Jv (Yg (pq 3 rfl) yB rfl) (Yg (pq 4 rfl) yB rfl) ?_) ?_
   ·exact Jd (QY hq.1.2) (QY hq.2.2) (by omega)
   refine YC (i:=6) YL.nd rfl (.inl rfl) (yV (d:=.int (My.G b ((p.1.den:Int)*(p.2.den:Int)))) Qg (hr.mono (by decide)) rfl (yb (pq 2 rfl) (yb (pq 5 rfl) yn)) ?_) ?_
   ·exact⟨_,_,rfl,rfl,yz so.b0,yz he⟩
   refine YC (i:=1) YL.nd rfl (.inl rfl) (Jq (Jv (pq 1 rfl) (jf py (pq 5 rfl) (pq 6 rfl) ?_) ?_) (Jv (Jv (Yg (pq 3 rfl) yB rfl) (Yg (pq 4 rfl) yB rfl) ?_) (jf py (pq 2 rfl) (pq 6 rfl) ?_) ?_)) ?_
   ·exact g0
   ·exact Jd so.tb b2 (by omega)
   ·exact Jd hq.1.2.1 hq.2.2.1 (by omega)
   ·exact g0
   ·exact Jd bn b1 (by omega)
   refine YC (i:=2) YL.nd rfl (.inl rfl) (Jv (jf py (pq 2 rfl) (pq 6 rfl) ?_) (pq 5 rfl) ?_) ?_
   ·exact g0
   ·exact Jd b1 eb (by omega)
   refine Yb (Yb ⟨_,_,_,_,_,_,?_,rfl⟩);rw[Yo hp'];exact so.more hq.1 hq.2
  ·intro hk;refine Yb (Yb ⟨t,b,_,_,_,_,?_,rfl⟩);rw[Yo hp'];refine so.skip ?_;rw[jR,jR] at hk;by_cases z:p.1=0
   ·exact .inl z
   ·refine .inr ?_;simpa [z] using hk
 ·rintro Γ Ω ⟨t,b,x3,x4,x5,x6,so,rfl⟩;rw[yf,yK] at so;refine Y8 (yV (d:=sh (uo ps)) vS (hr.mono (by decide)) rfl (yb (pq 1 rfl) (yb (pq 2 rfl) yn)) ?_) ?_
  ·exact⟨t,b,rfl,by rw[so.e],so.t0,so.b0⟩
  rfl
variable (P w K mg base) in
abbrev d9:Prop:=OkF P w K mg base CX0 2 "is_step" ["rule", "heads"] (spP K 2 lL)
theorem X5 (z:Zs mg)(d:Yn K mg "is_step" Zn ["rule", "heads"])  : d9 P w K mg base:=by
 refine Yz d XR rfl fun f cdv A outer s H E hr ds r hC B hB=>?_;obtain⟨r,L,rfl,rfl⟩:=hC;by_cases h1:r.2.1.length=1
 ·obtain⟨x,hx⟩:∃ x,r.2.1=[x]:=List.length_eq_one_iff.mp h1;have hx':(r.2.1.map D.str)=[D.str x]:=by rw[hx];rfl
  refine Y8 (aU (Vw (U8 (zf z.len rfl (Yg (pq 0 rfl) yB rfl)) yB)) fun _=>(xl (Vw (pB hr.units (Yg (d:=.str x) (Yg (pq 0 rfl) yB rfl) yB ?_) (pq 1 rfl) (.inl rfl) ?_)))) ?_
  ·show atI (r.2.1.map D.str) 0=_;rw[hx'];rfl
  ·exact Zk
  show D.bl _=D.bl _;rw[zI];unfold jj;rw[hx];simp
 ·have e:decide (((r.2.1.map D.str).length:Int)=1)=false:=yC (by rw[yf];omega);refine Y8 (j3 (d:=.bl (jj L r)) (aU (k':=false) (Vw (U8 (zf z.len rfl (Yg (pq 0 rfl) yB rfl)) yB)) fun hk=>by rw[e] at hk;cases hk) ?_) rfl;show D.bl (_&&false)=D.bl (jj L r);rw[Bool.and_false];unfold jj;split
  ·rename_i x hx;rw[hx] at h1;exact absurd rfl h1
  ·rfl
variable (P w K mg base C_Grammar) in
abbrev i8:Prop:=OkF P w K mg base CX0 3 "live_rules" ["grammar"] (spP K 1 (l6 C_Grammar))
theorem uZ (yv:ClsG K C_Grammar)(d:Yn K mg "live_rules" jM ["grammar"])(JT:Xy P w K mg base C_Grammar)(zA:XQ P w K mg base C_Grammar)(qi:V1 P w K mg base C_Grammar)(Jp:az P w K mg base):i8 P w K mg base C_Grammar:=by
 refine Yz d zQ rfl fun f cdv A outer s H E hr ds r hC B hB=>?_;obtain⟨st,rs,rfl,rfl,h1,h2⟩:=hC;refine YC (i:=1) zQ.nd rfl (.inr rfl) (PF3.p (Jh (ds:=Yi (y8 rs)) JT yv.c (hr.mono (by decide)) (pq 0 rfl) Ze ?_)) ?_
 ·exact⟨st,rs,rfl,rfl⟩
 refine YC (i:=2) zQ.nd rfl (.inr rfl) (PF3.p (Jh (ds:=Yi (Jk (y8 rs) rs)) zA yv.c (hr.mono (by decide)) (pq 0 rfl) Z5 ?_)) ?_
 ·exact⟨st,rs,rfl,rfl⟩
 refine Y8 (PF3.p (qQ (SX:=yi jM) (XN:=["grammar", "heads", "live"]) (N:=["rule", "heads", "live"]) (nt:=1) (caps:=[1,2]) (pre:=(fun i=>yG ((rs.take i).filter fun r=>Q9 (y8 rs) (Jk (y8 rs) rs) r.2.1))) ⟨rfl,by decide +kernel,by decide +kernel,by decide +kernel,rfl,by decide +kernel⟩ (qW (PF3.p (Jh (ds:=yG rs) qi yv.c (hr.mono (by decide)) (pq 0 rfl) QU ?_))) ?_ ?_ ?_)) ?_
 ·exact⟨st,rs,rfl,rfl⟩
 ·intro i hi;rw[YX,sizeLine_eq];have:=Ym (fun r:yL=>Q9 (y8 rs) (Jk (y8 rs) rs) r.2.1) (rs.take i);rw[y6] at this;omega
 ·rfl
 ·intro c i d hd;obtain⟨r,hr',rfl⟩:=qF hd;cases q:Q9 (y8 rs) (Jk (y8 rs) rs) r.2.1 with
  |true=>
   refine⟨_,(yT (i:=0) (show List.Nodup (α:=Str) ["rule", "heads", "live"] by decide +kernel) rfl (.inl rfl)),(Sub.set rfl),.inl ⟨Qo r,(v8 (Z4 (yV (d:=.bl true) Jp (hr.mono (by decide)) rfl (yb (Yg (pq 0 rfl) yB rfl) (yb (pqc 1 rfl) (yb (pqc 2 rfl) yn))) ?_))),(pq 0 rfl),?_⟩⟩
   ·exact⟨r.2.1,_,_,rfl,by rw[q],h2 r (yq hr')⟩
   ·show yG ((rs.take (i+1)).filter fun r=>Q9 (y8 rs) (Jk (y8 rs) rs) r.2.1)=_;rw[Yo hr',Yy,Yl (p:=fun r:yL=>Q9 (y8 rs) (Jk (y8 rs) rs) r.2.1) q];unfold yG;rw[yr];rfl
  |false=>
   refine⟨_,(yT (i:=0) (show List.Nodup (α:=Str) ["rule", "heads", "live"] by decide +kernel) rfl (.inl rfl)),(Sub.set rfl),.inr ⟨(v8 (Z4 (yV (d:=.bl false) Jp (hr.mono (by decide)) rfl (yb (Yg (pq 0 rfl) yB rfl) (yb (pqc 1 rfl) (yb (pqc 2 rfl) yn))) ?_))),?_⟩⟩
   ·exact⟨r.2.1,_,_,rfl,by rw[q],h2 r (yq hr')⟩
   ·show yG ((rs.take (i+1)).filter fun r=>Q9 (y8 rs) (Jk (y8 rs) rs) r.2.1)=_;rw[Yo hr',Yy,Yp (p:=fun r:yL=>Q9 (y8 rs) (Jk (y8 rs) rs) r.2.1) (fun z=>by rw[q] at z;cases z)];simp
 rw[YX,yK];rfl
variable (P w K mg base) in
abbrev ag:Prop:=OkF P w K mg base CX0 2 "stretches" ["row"] (spP K 1 oI)
theorem wP (z:Zs mg)(d:Yn K mg "stretches" jq ["row"])  : ag P w K mg base:=by
 refine Yz d ZI rfl fun f cdv A outer s H E hr ds r hC B hB=>?_;obtain⟨row,rfl,rfl,h1⟩:=hC;refine KH (i:=1) ZI.nd rfl (.inl rfl) (ZD yn) fun l=>?_;refine jP PassesOwn.never rfl (i6 (n:=row.length) (lo:=1) z.range rfl yB (Jq (zf z.len rfl (pq 0 rfl)) yB) ?_ ?_ ?_) (fun i Γ Ω=>∃ x,Γ=[some (qB row),some (.raw (.ref l)),x]/\Ω=[(l,Q3 K ((uD row.length i).map JV))]) ?_ ?_ ?_
 ·rfl
 ·rw[yf];omega
 ·rw[yf];omega
 ·exact⟨_,rfl,rfl⟩
 ·rintro i d Γ Ω hd ⟨x,rfl,rfl⟩;obtain⟨hi,rfl⟩:=jc hd;refine⟨_,(yT (i:=2) ZI.nd rfl (.inr rfl)),?_⟩;refine f9 (i:=1) rfl (.inl rfl) rfl (qQ (SX:=yi jq) (XN:=["row", "found", "length"]) (N:=["i", "length"]) (nt:=1) (caps:=[2]) (pre:=(fun k=>((List.range k).map fun j=>(j,j+i+1)).map JV)) ⟨rfl,by decide +kernel,by decide +kernel,by decide +kernel,rfl,by decide +kernel⟩ (QR (n:=row.length - i) z.range rfl (Jq (nA (zf z.len rfl (pq 0 rfl)) (pqc 2 rfl)) yB) ?_ ?_) ?_ ?_ ?_) ?_ ?_
  ·rw[yf];omega
  ·omega
  ·intro k hk;rw[yf,yf,qZ,sizeLine_eq];rw[YS] at hk;omega
  ·rfl
  ·intro c k d hd;obtain⟨hk,rfl⟩:=jc hd;refine⟨_,(yT (i:=0) (show List.Nodup (α:=Str) ["i", "length"] by decide +kernel) rfl (.inl rfl)),(Sub.set rfl),.inl ⟨JV (k,k+i+1),Qq,(j3 (QE (yb (pq 0 rfl) (yb (Jq (pq 0 rfl) (pqc 1 rfl)) yn))) ?_),?_⟩⟩
   ·have e:((0+k:Nat):Int)+((1+i:Nat):Int)=((k+i+1:Nat):Int):=by omega
    show D.tup [.int ((0+k:Nat):Int),.int (((0+k:Nat):Int)+((1+i:Nat):Int))]=D.tup [.int (k:Int),.int ((k+i+1:Nat):Int)];rw[e,YV]
   ·show((List.range (k+1)).map fun j=>(j,j+i+1)).map JV=_;rw[QA,yr,yr];rfl
  ·rw[YS,yf,yf,yf,qZ,sizeLine_eq];have:=UQ (n:=row.length) (i:=i);have:row.length*i<=10*10:=qK h1 (by omega);omega
  ·refine Yb ⟨_,rfl,?_⟩;rw[uI,yr,YS];rfl
 ·rintro Γ Ω ⟨x,rfl,rfl⟩;rw[YS];refine zj (i:=1) rfl ?_;refine Y8 (pq 1 rfl) ?_;rfl
variable (P w K mg base) in
abbrev iJ:Prop:=OkF P w K mg base CX0 38 "chains_of" ["heads", "steps"] (spP K 2 fK)
theorem wY (z:Zs mg)(yF:ql K mg "NOUGHT" (sh 0))(jQ:ql K mg "ONE" (sh 1))(d:Yn K mg "chains_of" js ["heads", "steps"])(Uj:fw P w K mg base):iJ P w K mg base:=by
 refine Yz d Qb rfl fun f cdv A outer s H E hr ds r hC B hB=>?_;obtain⟨L,ss,s',rfl,rfl,nd,hL,hss,hb1,hkn,hsz,hs1,hsk,hpv⟩:=hC;refine JP (i:=2) Qb.nd rfl (.inr rfl) (Xz fun l=>?_);refine jP PassesOwn.never rfl (qW (pq 1 rfl)) (fun i Γ Ω=>∃ x3,Γ=[some (.lst (Yi L)),some (.lst (yG ss)),some (.raw (.ref l)),x3,none,none,none,none,none]/\Ω=[(l,oDt K (((ss.take i).map fun r=>(r.1,b0 r)).map kW) (((ss.take i).map (·.2.2)).map sh))]) ⟨_,rfl,rfl⟩ ?_ ?_
 ·rintro i d Γ Ω hd ⟨x3,rfl,rfl⟩;obtain⟨r,hr',rfl⟩:=qF hd;obtain⟨y,hy⟩:=hb1 r (yq hr');have hn:=v6 (f:=fun r:yL=>(r.1,b0 r)) hkn hr';have ey:b0 r=y:=by unfold b0;rw[hy];rfl
  have hi:i<ss.length:=(yh.mp hr').1;refine⟨_,(yT (i:=3) Qb.nd rfl (.inl rfl)),?_⟩;refine Xu (k:=kW (r.1,b0 r)) hr.units (YH (pqc 2 rfl) ⟨rfl,rfl⟩) (yb (Yg (pq 3 rfl) yB rfl) (yb (Yg (d:=.str (b0 r)) (Yg (pq 3 rfl) yB rfl) yB ?_) yn)) (Yg (pq 3 rfl) yB rfl) (List.Perm.refl _) ?_ ?_
  ·show atI (r.2.1.map D.str) 0=_;rw[ey,hy];rfl
  ·rw[yf,yf,y6,sizeLine_eq];omega
  ·refine Yb ⟨_,rfl,?_⟩;have e1:pK (((ss.take i).map fun r=>(r.1,b0 r)).map kW) (kW (r.1,b0 r))=((ss.take (i+1)).map fun r=>(r.1,b0 r)).map kW:=by
    rw[ab xW,Yo hr',yr];unfold pK;rw[yd hn];rfl
   have e2:pA (((ss.take i).map fun r=>(r.1,b0 r)).map kW) (((ss.take i).map (·.2.2)).map sh) (kW (r.1,b0 r)) (sh r.2.2)=((ss.take (i+1)).map (·.2.2)).map sh:=by
    rw[Xg xW,Yo hr',yr];unfold pA;rw[yd hn];rfl
   rw[e1,e2];rfl
 ·rintro Γ Ω ⟨x3,rfl,rfl⟩;rw[YX,yK];refine pk (i:=2) rfl ?_;refine KH (i:=4) Qb.nd rfl (.inl rfl) (ZD yn) fun l4=>?_;refine KH (i:=5) Qb.nd rfl (.inl rfl) (ZD yn) fun l5=>?_;refine jP PassesOwn.never rfl (qW (pq 0 rfl)) (fun i Γ Ω=>∃ x6,Γ=[some (.lst (Yi L)),some (.lst (yG ss)),some (.dt ((ss.map fun r=>(r.1,b0 r)).map kW) ((ss.map (·.2.2)).map sh)),x3,some (.raw (.ref l4)),some (.raw (.ref l5)),x6,none,none]/\Ω=[(l5,Q3 K (tb i fun r=>shR L.length (idM L r))),(l4,Q3 K (tb i fun r=>shR L.length (wM2 L ss r)))]) ⟨_,rfl,rfl⟩ ?_ ?_
  ·rintro i d Γ Ω hd ⟨x6,rfl,rfl⟩;obtain⟨h,hh,rfl⟩:=jI hd;have hi:i<L.length:=(yh.mp hh).1;have eh:L.getD i "" = h:=by rw[yM,hh];rfl
   refine⟨_,(yT (i:=6) Qb.nd rfl (.inr rfl)),?_⟩;refine wA (List.Perm.swap ..) ?_;refine vo (i:=4) rfl (.inl rfl) rfl (PF3.p (qQ (SX:=yi js) (XN:=["heads", "steps", "straight", "rule", "ways", "ends", "head", "chains", "found"]) (N:=["other", "straight", "head"]) (nt:=1) (caps:=[2,6]) (pre:=(fun k=>tb k fun j=>sh (wM2 L ss i j))) ⟨rfl,by decide +kernel,by decide +kernel,by decide +kernel,rfl,by decide +kernel⟩ (qW (pq 0 rfl)) ?_ ?_ ?_)) ?_ ?_
   ·intro k hk;rw[qD] at hk;rw[Yk,sizeLine_eq];omega
   ·rfl
   ·intro c k d hd;obtain⟨o,ho,rfl⟩:=jI hd;refine⟨_,(yT (i:=0) (show List.Nodup (α:=Str) ["other", "straight", "head"] by decide +kernel) rfl (.inl rfl)),(Sub.set rfl),.inl ⟨sh (wM2 L ss i k),Qq,(j3 (Xr (k:=kW (h,o)) hr.units (pqc 1 rfl) (yb (pqc 2 rfl) (yb (pq 0 rfl) yn)) (YB yF rfl)) ?_),?_⟩⟩
    ·unfold wM2;rw[eh,show L.getD k "" = o by rw[yM,ho];rfl,kg xW];unfold gc;cases vA (ss.map fun r=>(r.1,b0 r)) (ss.map (·.2.2)) (h,o) <;> rfl
    ·exact Ql
   ·rw[Yk,sizeLine_eq];omega
   rw[qD];refine wA (List.Perm.swap ..) ?_;refine vo (i:=5) rfl (.inl rfl) rfl (PF3.p (qQ (SX:=yi js) (XN:=["heads", "steps", "straight", "rule", "ways", "ends", "head", "chains", "found"]) (N:=["other", "head"]) (nt:=1) (caps:=[6]) (pre:=(fun k=>tb k fun j=>sh (idM L i j))) ⟨rfl,by decide +kernel,by decide +kernel,by decide +kernel,rfl,by decide +kernel⟩ (qW (pq 0 rfl)) ?_ ?_ ?_)) ?_ ?_
   ·intro k hk;rw[qD] at hk;rw[Yk,sizeLine_eq];omega
   ·rfl
   ·intro c k d hd;obtain⟨o,ho,rfl⟩:=jI hd;refine⟨_,(yT (i:=0) (show List.Nodup (α:=Str) ["other", "head"] by decide +kernel) rfl (.inl rfl)),(Sub.set rfl),.inl ⟨sh (idM L i k),Qq,(bB (d:=sh (idM L i k)) (qm (cc (pqc 1 rfl) (pq 0 rfl))) (fun hc=>(j3 (YB jQ rfl) ?_)) (fun hc=>(j3 (YB yF rfl) ?_))),?_⟩⟩
    ·have hc:=of_decide_eq_true hc;unfold idM;rw[eh,show L.getD k "" = o by rw[yM,ho];rfl,ye hc]
    ·have hc:=of_decide_eq_false hc;unfold idM;rw[eh,show L.getD k "" = o by rw[yM,ho];rfl,yd hc]
    ·exact Ql
   ·rw[Yk,sizeLine_eq];omega
   rw[qD];refine Yb ⟨_,rfl,?_⟩;rw[Ql,Ql];rfl
  ·rintro Γ Ω ⟨x6,rfl,rfl⟩;rw[qD];refine zj (i:=5) rfl ?_;refine zj (i:=4) rfl ?_;refine JP (i:=7) Qb.nd rfl (.inl rfl) (wv fun lc=>?_);have gI:ve L.length L.length s' (idM L):=fun i j _ _=>by
    unfold idM;split
    ·exact⟨by decide,VA.mono hs1⟩
    ·exact⟨by decide,V4.mono hs1⟩
   have gW:ve L.length L.length s' (wM2 L ss):=fun i j _ _=>bP hsz hs1;refine jP PassesOwn.never rfl (ck z.zip rfl (pq 0 rfl) (yV (d:=shM L.length L.length (chF L ss)) Uj (hr.mono (by decide)) rfl (yb (pq 4 rfl) (yb (pq 5 rfl) yn)) ?_)) (fun i Γ Ω=>∃ x6 x8,Γ=[some (.lst (Yi L)),some (.lst (yG ss)),some (.dt ((ss.map fun r=>(r.1,b0 r)).map kW) ((ss.map (·.2.2)).map sh)),x3,some (shM L.length L.length (wM2 L ss)),some (shM L.length L.length (idM L)),x6,some (.raw (.ref lc)),x8]/\Ω=[(lc,oDk K ((L.take i).map qp) (tb i fun r=>.dk (L.map qp) (tb L.length fun j=>sh (chF L ss r j))))]) ⟨_,_,rfl,rfl⟩ ?_ ?_
   ·exact⟨L.length,L.length,s',wM2 L ss,idM L,rfl,rfl,⟨by omega,by omega,gW,gI,hsk⟩,hpv⟩
   ·rintro i d Γ Ω hd ⟨x6,x8,rfl,rfl⟩;obtain⟨h,hi,hh,rfl⟩:=iu hd;refine⟨_,(Z1 rfl (qr (yT (i:=6) Qb.nd rfl (.inr rfl)) (qr (yT (i:=8) Qb.nd rfl (.inl rfl)) JN))),?_⟩;refine wN (k:=qp h) hr.units (pq 7 rfl) (pqc 6 rfl) (YH (cE rfl z.dict rfl z.zip rfl (j3 (pq 0 rfl) (congrArg D.lst UG)) (pq 8 rfl) (uu nd) ?_ ?_) ⟨_,_,[],List.Perm.refl _,?_,?_⟩)
    ·rw[yf,Yk]
    ·rw[yf,sizeLine_eq];omega
    ·rw[yf,y6,sizeLine_eq];omega
    ·refine Yb ⟨_,_,rfl,?_⟩;have hn:qp h∉(L.take i).map qp:=fun z=>by
      have:=v6 (f:=fun x:Str=>x) (by simpa using nd) hh;exact this (by simpa using (vn Zm).mp z)
     have e1:pK ((L.take i).map qp) (qp h)=(L.take (i+1)).map qp:=by
      unfold pK;rw[yd hn,Yo hh,yr];rfl
     have e2:∀ v:D,pA ((L.take i).map qp) (tb i fun r=>D.dk (L.map qp) (tb L.length fun j=>sh (chF L ss r j))) (qp h) v=(tb i fun r=>D.dk (L.map qp) (tb L.length fun j=>sh (chF L ss r j)))++[v]:=fun v=>by
      unfold pA;rw[yd hn]
     rw[e1,e2,Ql];rfl
   ·rintro Γ Ω ⟨x6,x8,rfl,rfl⟩;rw[fP,yK];refine wF (i:=7) rfl ?_;refine Y8 (pq 7 rfl) ?_;rfl
end
end Law
namespace L3
open PySem PySem.Spec PySem.Calls PyProof.Rows L2
structure ClsS (K:W.Frag)(C:Addr):Prop where
 c:Cls K C
 n_grammar:qM K C "grammar"
 n_row:qM K C "row"
 n_known_heads:qM K C "known_heads"
 n_branches:qM K C "branches"
 n_chains:qM K C "chains"
 n_known_sums:qM K C "known_sums"
 n_known_worths:qM K C "known_worths"
theorem lD {K:W.Frag}{C:Addr}(pg:W.plainGet K C Str.empty=true)(hd:W.hasDictIn K C=true)(po:W.plainOver K C=true)(sa:W.findIn K (.ref C) "__setattr__" = some (some (.builtin "object.__setattr__")))
  (n1:W.findIn K (.ref C) "grammar" = some none) (n2:W.findIn K (.ref C) "row" = some none) (n3:W.findIn K (.ref C) "known_heads" = some none) (n4:W.findIn K (.ref C) "branches" = some none) (n5:W.findIn K (.ref C) "chains" = some none) (n6:W.findIn K (.ref C) "known_sums" = some none) (n7:W.findIn K (.ref C) "known_worths" = some none):ClsS K C:=⟨⟨pg,hd,po,sa⟩,n1,n2,n3,n4,n5,n6,n7⟩
theorem vw:("within" : Str)∉sF:=by decide +kernel
theorem zR:("whole" : Str)∉sF:=by decide +kernel
theorem ug:("settle" : Str)∉sF:=by decide +kernel
theorem kR:("ends_at" : Str)∉sF:=by decide +kernel
theorem uW:("worth" : Str)∉sF:=by decide +kernel
theorem Ju:("worth_of_body" : Str)∉sF:=by decide +kernel
theorem lU {t:Nat}{kn:Kn}(h:uY t kn)(h1:1<=t){x:Str}{i j:Nat}:0<=Zq kn x i j/\Sz t (Zq kn x i j):=by
 unfold Zq;cases q:vA kn.1 kn.2 (x,i,j) with
 |none=>exact⟨by decide,V4.mono h1⟩
 |some v=>exact h v (Wr q)
theorem aO {t:Nat}{kn:Kn}(h:uY t kn)(h1:1<=t){hs row:List Str}{i j:Nat}{x:Str}:0<=woS hs row kn i j x/\Sz t (woS hs row kn i j x):=by
 unfold woS;split
 ·exact lU h h1
 ·split
  ·exact⟨by decide,VA.mono h1⟩
  ·exact⟨by decide,V4.mono h1⟩
structure EnOk (m k:Nat)(e:En):Prop where
 len:e.1.length<=k
 eq:e.1.length=e.2.length
 vals:∀ q∈e.2,0<=q/\Sz m q
theorem tY {s t:Nat}:EnOk (brB 0 s t) 0 ([],[]):=⟨yo _,rfl,fun q h=>by cases h⟩
theorem EnOk.get {m k:Nat}{e:En}(h:EnOk m k e)(h1:1<=m){x:Str}:0<=(vA e.1 e.2 x).getD 0/\Sz m ((vA e.1 e.2 x).getD 0):=by
 cases q:vA e.1 e.2 x with
 |none=>exact⟨by decide,V4.mono h1⟩
 |some v=>exact h.vals v (Wr q)
theorem WK {n s t:Nat}:brB (n+1) s t=brB n s t+(s+t+4):=by unfold brB;rw[Nat.add_mul n 1,Nat.one_mul];omega
theorem xb {m n s t:Nat}(h:m<=n):brB m s t<=brB n s t:=by unfold brB;have:=Nat.mul_le_mul_right (s+t+4) h;omega
theorem EnOk.step {s t k:Nat}{e:En}{r:yL}{wo:Str->Rat}(h:EnOk (brB k s t) k e)(hs:0<=r.2.2/\Sz s r.2.2)(hw:0<=wo (b0 r)/\Sz t (wo (b0 r))):EnOk (brB (k+1) s t) (k+1) (Qn wo e r):=by
 have b1:1<=brB k s t:=by unfold brB;omega
 have g:=h.get b1 (x:=r.1);have le:brB k s t<=brB (k+1) s t:=xb (by omega);unfold Qn;split
 ·exact⟨Nat.le_succ_of_le h.len,h.eq,fun q hq=>⟨(h.vals q hq).1,(h.vals q hq).2.mono le⟩⟩
 ·refine⟨Ye iz (Nat.succ_le_succ h.len),Xj h.eq,fun q hq=>?_⟩;rcases dZ hq with z|z
  ·rw[z];exact⟨ul g.1 (zr hs.1 hw.1),(X2 g.2 (v4 hs.2 hw.2)).mono (by rw[WK];omega)⟩
  ·exact⟨(h.vals q z).1,(h.vals q z).2.mono le⟩
theorem Vr {s t:Nat}{wo:Str->Rat}{br:List yL}(hb:fQ s br)(hw:∀ x,0<=wo x/\Sz t (wo x)):∀ i,i<=br.length->EnOk (brB i s t) i ((br.take i).foldl (Qn wo) ([],[]))
 |0,_=>tY
 |i+1,hi=>by
  have hr:br[i]?=some br[i]:=ym (by omega);rw[Yo hr,qg];exact(Vr hb hw i (by omega)).step (hb _ (yq hr)).2 (hw _)
theorem We {L:List Str}{wo:Str->Rat}:∀ {br:List yL} {e:En},(∀ r∈br,r.1∈L)->(∀ x∈e.1,x∈L)->∀ x∈(br.foldl (Qn wo) e).1,x∈L
 |[],e,_,h=>h
 |r::br,e,hb,h=>by
  rw[YQ];refine We (fun r hr=>hb r (yc _ hr)) fun x hx=>?_;unfold Qn at hx;split at hx
  ·exact h x hx
  ·rcases oX hx with z|z
   ·rw[z];exact hb r (by simp)
   ·exact h x z
theorem bN {κ α:Type}[DecidableEq κ]{k:κ}:∀ {ks:List κ} {xs:List α},k∈ks->ks.length=xs.length->∃ v,vA ks xs k=some v
 |[],_,h,_=>by cases h
 |_::_,[],_,h=>by simp at h
 |q::ks,x::xs,h,hl=>by
  unfold vA;rw[yU,Ys];by_cases e:q=k
  ·rw[yO e];exact⟨x,rfl⟩
  ·rw[yC e];exact bN ((yP.mp h).resolve_left fun z=>e z.symm) (by simpa using hl)
def tB (n m:Nat):Nat:=n*(2*m+1)+1
theorem cg {m:Nat}{ps:List (Rat×Rat)}(h:∀ p∈ps,(0<=p.1/\Sz m p.1)/\0<=p.2/\Sz m p.2):∀ i,i<=ps.length->∃ t b,SopOk m (ps.take i) i t b
 |0,_=>⟨0,1,n8⟩
 |i+1,hi=>by
  obtain⟨t,b,so⟩:=cg h i (by omega);have hp:ps[i]?=some ps[i]:=ym (by omega);rw[Yo hp];exact⟨_,_,so.more (h _ (yq hp)).1 (h _ (yq hp)).2⟩
theorem ms {m:Nat}{ps:List (Rat×Rat)}(h:∀ p∈ps,(0<=p.1/\Sz m p.1)/\0<=p.2/\Sz m p.2):0<=uo ps/\Sz (tB ps.length m) (uo ps):=by
 obtain⟨t,b,so⟩:=cg h ps.length (yo _);rw[yK] at so;rw[←so.e];exact⟨Rat.divInt_nonneg so.t0 (yz so.b0),Jz so.b0 so.tb so.bb⟩
structure ChOk (L:List Str)(v:Nat)(ch:Nat->Nat->Rat):Prop where
 nd:L.Nodup
 len:L.length<=30
 good:ve L.length L.length v ch
theorem rG {L:List Str}{x:Str}(h:x∈L):L[L.idxOf x]?=some x:=by
 have hl:L.idxOf x<L.length:=QV.mpr h;rw[ym hl,List.getElem_idxOf]
theorem pQ {L:List Str}{v:Nat}{ch:Nat->Nat->Rat}(c:ChOk L v ch){h o:Str}(hh:h∈L)(ho:o∈L):0<=chS L ch h o/\Sz v (chS L ch h o):=
 c.good _ _ (QV.mpr hh) (QV.mpr ho)
theorem xi {L:List Str}{v m k:Nat}{ch:Nat->Nat->Rat}{e:En}{h:Str}(c:ChOk L v ch)(he:EnOk m k e)(h1:1<=m)(hk:∀ x∈e.1,x∈L)(hh:h∈L):∀ p∈K8 L ch e h,(0<=p.1/\Sz (max v m) p.1)/\0<=p.2/\Sz (max v m) p.2:=fun p hp=>by
 obtain⟨o,ho,rfl⟩:=yx.mp hp;have a:=pQ c hh (hk o ho);have b:=he.get h1 (x:=o);exact⟨⟨a.1,a.2.mono (QP ..)⟩,b.1,b.2.mono (Q0 ..)⟩
theorem ub {L:List Str}{ch:Nat->Nat->Rat}{e:En}{h:Str}:(K8 L ch e h).length=e.1.length:=by unfold K8;rw[yf]
theorem eE {L:List Str}{F:Nat->D}{h:Str}(nd:L.Nodup)(hh:h∈L):vA (L.map qp) (tb L.length F) (qp h)=some (F (L.idxOf h)):=by
 have:=su (ks:=L.map qp) (F:=F) (k:=qp h) (i:=L.idxOf h) (uu nd) (by rw[yl,rG hh];rfl)
 rw[yf] at this;exact this
theorem pP {e:En}{o:Str}(hl:e.1.length=e.2.length)(ho:o∈e.1):vA (e.1.map qp) (e.2.map sh) (qp o)=some (sh ((vA e.1 e.2 o).getD 0)):=by
 rw[kg Zm];obtain⟨v,hv⟩:=bN ho hl;rw[hv];rfl
structure SSt where
 a:Addr
 b:Addr
 g:D
 row:List Str
 hs:List Str
 br:List yL
 L:List Str
 ch:Nat->Nat->Rat
 kw:D
 kn:Kn
def omS (K:W.Frag)(Cs:Addr)(t:SSt):Om:=[(t.a,jG K Cs sF [t.g,qB t.row,.lst (Yi t.hs),.lst (yG t.br),chD t.L t.ch,.raw (.ref t.b),t.kw]),(t.b,oDt K (knK t.kn) (knV t.kn))]
structure SetOk (t:SSt)(i j s u v:Nat):Prop where
 i:i<t.row.length
 bl:t.br.length<=30
 hd:∀ r∈t.br,r.1∈t.L
 br:fQ s t.br
 kn:uY u t.kn
 u1:1<=u
 ch:ChOk t.L v t.ch
 b1:max v (brB t.br.length s u)<=1000000
 b2:cJ t.br.length (max v (brB t.br.length s u))<=big
 kl:t.kn.1.length<=100000
def xh (Cs:Addr):SSt->List D->SSt->D->Prop:=fun t ds t' d=>∃ (i j s u v:Nat),ds=[.raw (.ref t.a),.int (i:Int),.int (j:Int)]/\t'={t with kn:=Jf t.hs t.row t.L t.br t.ch t.kn (i,j)}/\d=.non/\SetOk t i j s u v
theorem cW {K:W.Frag}{Cs:Addr}:∀ t ds t' d,xh Cs t ds t' d->(omS K Cs t').map (·.1)=(omS K Cs t).map (·.1):=fun t ds t' d ⟨_,_,_,_,_,_,e,_⟩=>by subst e;rfl
theorem fX {e:En}{L:Bool}:Jr L (enD e)=true:=by
 unfold enD;rw[Jr]
 induction e.2 with
 |nil=>rfl
 |cons q qs ih=>rw[yy,Zr,ih];rfl
theorem X0 {L:List Str}{ch:Nat->Nat->Rat}{e:En}{i j:Nat}:∀ {hs:List Str} {kn:Kn},(hs.foldl (QF L ch e i j) kn).1.length<=kn.1.length+hs.length
 |[],kn=>yo _
 |h::hs,kn=>by
  rw[YQ,yI];have:=X0 (L:=L) (ch:=ch) (e:=e) (i:=i) (j:=j) (hs:=hs) (kn:=QF L ch e i j kn h);have:(QF L ch e i j kn h).1.length<=kn.1.length+1:=by
   unfold QF m9;split
   ·omega
   ·exact iz
  omega
theorem gm {t:Nat}{kn:Kn}{h:Str}{i j:Nat}{q:Rat}(k:uY t kn)(hq:0<=q/\Sz t q):uY t (m9 kn h i j q):=fun x hx=>by
 rcases dZ hx with z|z
 ·rw[z];exact hq
 ·exact k x z
theorem Ut {t:Nat}{L:List Str}{ch:Nat->Nat->Rat}{e:En}{i j:Nat}:∀ {hs:List Str} {kn:Kn},uY t kn->(∀ h∈hs,0<=Kd L ch e h/\Sz t (Kd L ch e h))->uY t (hs.foldl (QF L ch e i j) kn)
 |[],kn,h,_=>h
 |h::hs,kn,k,ht=>by
  rw[YQ];refine Ut ?_ fun x hx=>ht x (yc _ hx);unfold QF;split
  ·exact k
  ·exact gm k (ht h (by simp))
def nxt (n s v u:Nat):Nat:=max u (tB n (max v (brB n s u)))
theorem SetOk.next {t:SSt}{i j s u v:Nat}(h:SetOk t i j s u v):uY (nxt t.br.length s v u) (Jf t.hs t.row t.L t.br t.ch t.kn (i,j)):=by
 have eo:=Vr (wo:=woS t.hs t.row t.kn i j) h.br (fun x=>aO h.kn h.u1) t.br.length (yo _);rw[yK] at eo;have ek:=We (wo:=woS t.hs t.row t.kn i j) (e:=([],[])) h.hd (fun x hx=>by cases hx);refine Ut (fun q hq=>⟨(h.kn q hq).1,(h.kn q hq).2.mono (QP ..)⟩) fun x hx=>?_;have ps:=xi h.ch eo (by unfold brB;omega) ek hx;have z:=ms ps;refine⟨z.1,z.2.mono (Ye ?_ (Q0 ..))⟩;rw[ub];unfold tB;have:=Nat.mul_le_mul_right (2*max v (brB t.br.length s u)+1) eo.len;omega
def uK (n s v:Nat):Nat->Nat
 |0=>1
 |k+1=>nxt n s v (uK n s v k)
noncomputable def yY (rs:List yL):List Str:=Jk (y8 rs) rs
noncomputable def Je (rs:List yL):List yL:=(JL (y8 rs) (yY rs) rs).filter fun r=>!jj (yY rs) r
noncomputable def Wq (rs:List yL):List yL:=(JL (y8 rs) (yY rs) rs).filter (jj (yY rs))
noncomputable def zm (rs:List yL):Nat->Nat->Rat:=chF (yY rs) (Wq rs)
noncomputable def VG (rs:List yL)(row:List Str):Kn:=se (y8 rs) row (yY rs) (Je rs) (zm rs)
noncomputable def sDs (Cg:Addr)(st:Str)(rs:List yL)(row:List Str):List D:=[gD Cg st rs,qB row,.lst (Yi (y8 rs)),.lst (yG (Je rs)),chD (yY rs) (zm rs),knD (VG rs row),.dt [] []]
structure SumOk (rs:List yL)(row:List Str)(s:Nat):Prop where
 rl:rs.length<=30
 body:∀ r∈rs,r.2.1.length<=4
 wl:row.length<=10
 nd:(yY rs).Nodup
 ll:(yY rs).length<=30
 keys:((Wq rs).map fun r=>(r.1,b0 r)).Nodup
 sz:∀ r∈rs,0<=r.2.2/\Sz s r.2.2
 s1:1<=s
 sk:sK s (yY rs).length<=big
 piv:Piv (yY rs).length (wM2 (yY rs) (Wq rs))
 hd:∀ r∈Je rs,r.1∈yY rs
 one:∀ r∈Je rs,∃ x,r.2.1=[x]
 bits:∀ k,k<(zh row.length).length->max (sK s (yY rs).length) (brB (Je rs).length s (uK (Je rs).length s (sK s (yY rs).length) k))<=1000000/\cJ (Je rs).length (max (sK s (yY rs).length) (brB (Je rs).length s (uK (Je rs).length s (sK s (yY rs).length) k)))<=big
noncomputable def l7 (Cg:Addr):List D->List Str×List D->Prop:=fun ds r=>∃ (st:Str) (rs:List yL) (row:List Str) (s:Nat),ds=[gD Cg st rs,qB row]/\r=(sF,sDs Cg st rs row)/\SumOk rs row s
end L3
namespace Law
open PySem L2 L3
section
variable {P:Program}{w:World}{K:W.Frag}{mg:Str->Option Value}{base:Heap}{C_Grammar C_Sums C_Parts:Addr}
variable (P w K mg base C_Sums) in
abbrev xX:Prop:=OkM P w K mg base CX0 2 C_Sums "within" ["self", "head", "i", "j"] (spP K 4 (fu C_Sums))
theorem uw (yR:ClsS K C_Sums)(yF:ql K mg "NOUGHT" (sh 0))(d:YD K C_Sums "within" "Sums.within" Q8 ["self", "head", "i", "j"])  : xX P w K mg base C_Sums:=by
 refine zM d K3 rfl fun f cdv A outer s H E hr ds r hC B hB=>?_;obtain⟨g,row,hs,br,ch,kw,kn,h,i,j,rfl,rfl⟩:=hC;refine Y8 (Xr (k:=kS (h,i,j)) hr.units (jd (pq 0 rfl) yR.c yR.n_known_sums rfl) (yb (pq 1 rfl) (yb (pq 2 rfl) (yb (pq 3 rfl) yn))) (YB yF rfl)) ?_;show(vA (kn.1.map kS) (kn.2.map sh) (kS (h,i,j))).getD (sh 0)=sh (Zq kn h i j);rw[kg wr];unfold Zq;cases vA kn.1 kn.2 (h,i,j) <;> rfl
variable (P w K mg base C_Grammar C_Sums) in
abbrev wH:Prop:=OkM P w K mg base CX0 3 C_Sums "whole" ["self"] (spP K 1 (fY C_Sums C_Grammar))
theorem uV (z:Zs mg)(yR:ClsS K C_Sums)(yv:ClsG K C_Grammar)(d:YD K C_Sums "whole" "Sums.whole" jJ ["self"])(zY:xX P w K mg base C_Sums)(Q4:Wh P w K mg base C_Grammar):wH P w K mg base C_Grammar C_Sums:=by
 refine zM d Ud rfl fun f cdv A outer s H E hr ds r hC B hB=>?_;obtain⟨st,rs,row,hs,br,ch,kw,kn,rfl,rfl⟩:=hC;refine Y8 (ZB (d:=sh (Zq kn st 0 row.length)) zY yR.c (hr.mono (by decide)) (pq 0 rfl) vw (yb (vL (d:=.str st) Q4 yv.c (hr.mono (by decide)) (jd (pq 0 rfl) yR.c yR.n_grammar rfl) JA ?_) (yb yB (yb (zf z.len rfl (jd (pq 0 rfl) yR.c yR.n_row rfl)) yn))) ?_) ?_
 ·exact⟨st,rs,rfl,rfl⟩
 ·exact⟨gD C_Grammar st rs,qB row,hs,br,ch,kw,kn,st,0,row.length,by rw[yf];rfl,rfl⟩
 rfl
variable (P w K mg base C_Sums) in
abbrev hU:Prop:=OkM P w K mg base CX0 3 C_Sums "worth" ["self", "symbol", "i", "j"] (spP K 4 (na C_Sums))
theorem uT (yR:ClsS K C_Sums)(yF:ql K mg "NOUGHT" (sh 0))(jQ:ql K mg "ONE" (sh 1))(d:YD K C_Sums "worth" "Sums.worth" jD ["self", "symbol", "i", "j"])(zY:xX P w K mg base C_Sums):hU P w K mg base C_Sums:=by
 refine zM d Ui rfl fun f cdv A outer s H E hr ds r hC B hB=>?_;obtain⟨g,br,ch,kw,row,hs,kn,x,i,j,rfl,rfl,hi⟩:=hC;refine JX (qm (pB hr.units (pq 1 rfl) (jd (pq 0 rfl) yR.c yR.n_known_heads rfl) (.inl rfl) ?_)) ?_ ?_
 ·exact Zk
 ·intro hk;rw[zI] at hk;have hk:=of_decide_eq_true hk;refine Y8 (ZB (d:=sh (Zq kn x i j)) zY yR.c (hr.mono (by decide)) (pq 0 rfl) vw (yb (pq 1 rfl) (yb (pq 2 rfl) (yb (pq 3 rfl) yn))) ?_) ?_
  ·exact⟨_,_,_,_,_,_,kn,x,i,j,rfl,rfl⟩
  unfold woS;rw[ye hk]
 ·intro hk;rw[zI] at hk;have hk:=of_decide_eq_false hk;refine Yb ?_;obtain⟨y,hr0⟩:∃ y,row[i]?=some y:=⟨_,ym hi⟩
  refine Y8 (bB (d:=sh (woS hs row kn i j x)) (PW3.t (Xp (qm (U8 (pq 3 rfl) (Jq (pq 2 rfl) yB))) fun _=>(wd (qm (cc (Yg (d:=.str y) (jd (pq 0 rfl) yR.c yR.n_row rfl) (pq 2 rfl) ?_) (pq 1 rfl)))))) (fun hc=>(j3 (YB jQ rfl) ?_)) (fun hc=>(j3 (YB yF rfl) ?_))) ?_
  ·exact Ki (by rw[yl,hr0];rfl)
  ·rw[Yr] at hc;have h1:=of_decide_eq_true hc.1;have h2:=of_decide_eq_true hc.2;unfold woS;rw[yd hk,ye ⟨by omega,by rw[hr0,h2]⟩]
  ·unfold woS;rw[yd hk,yd ?_];rintro⟨h1,h2⟩;rw[hr0] at h2;rw[yO (show(j:Int)=(i:Int)+1 by omega),yO (Option.some.inj h2)] at hc;cases hc
  rfl
variable (P w K mg base C_Sums) in
abbrev aj:Prop:=OkM P w K mg base CX0 4 C_Sums "worth_of_body" ["self", "body", "i", "j"] (spP K 4 (fI C_Sums))
theorem vc (z:Zs mg)(yR:ClsS K C_Sums)(d:YD K C_Sums "worth_of_body" "Sums.worth_of_body" qo ["self", "body", "i", "j"])(Wu:hU P w K mg base C_Sums):aj P w K mg base C_Sums:=by
 refine zM d Z9 rfl fun f cdv A outer s H E hr ds r hC B hB=>?_;obtain⟨g,br,ch,kw,row,hs,kn,x,i,j,rfl,rfl,hi⟩:=hC;refine JX (qm (U8 (zf z.len rfl (pq 1 rfl)) yB)) ?_ ?_
 ·intro hk;refine Y8 (ZB (d:=sh (woS hs row kn i j x)) Wu yR.c (hr.mono (by decide)) (pq 0 rfl) uW (yb (Yg (d:=.str x) (pq 1 rfl) yB ?_) (yb (pq 2 rfl) (yb (pq 3 rfl) yn))) ?_) ?_
  ·rfl
  ·exact⟨g,br,ch,kw,row,hs,kn,x,i,j,rfl,rfl,hi⟩
  rfl
 ·intro hk;have hk:decide ((1:Int)=1)=false:=hk;exact absurd hk (by decide)
variable (P w K mg base C_Sums) in
abbrev im:Prop:=OkM P w K mg base CX0 36 C_Sums "ends_at" ["self", "i", "j"] (spP K 3 (dY C_Sums))
theorem k6 (yR:ClsS K C_Sums)(yF:ql K mg "NOUGHT" (sh 0))(d:YD K C_Sums "ends_at" "Sums.ends_at" QM ["self", "i", "j"])(jz:aj P w K mg base C_Sums)(J6:UV P w K mg base)(Jo:KW P w K mg base):im P w K mg base C_Sums:=by
 refine zM d jX rfl fun f cdv A outer s H E hr ds r hC B hB=>?_;obtain⟨g,ch,kw,row,hs,br,kn,i,j,s',t,rfl,rfl,hi,hbl,hbr,hkn,ht1,hbb⟩:=hC;have hwo:∀ x,0<=woS hs row kn i j x/\Sz t (woS hs row kn i j x):=fun x=>aO hkn ht1;refine JP (i:=3) jX.nd rfl (.inl rfl) (wv fun l=>?_);refine jP PassesOwn.never rfl (qW (jd (pq 0 rfl) yR.c yR.n_branches rfl)) (fun k Γ Ω=>∃ x4 x5,Γ=[some (sO C_Sums g (qB row) (.lst (Yi hs)) (.lst (yG br)) ch (knD kn) kw),some (.int (i:Int)),some (.int (j:Int)),some (.raw (.ref l)),x4,x5]/\Ω=[(l,oDk K (((br.take k).foldl (Qn (woS hs row kn i j)) ([],[])).1.map qp) (((br.take k).foldl (Qn (woS hs row kn i j)) ([],[])).2.map sh))]) ⟨_,_,rfl,rfl⟩ ?_ ?_
 ·rintro k d Γ Ω hd ⟨x4,x5,rfl,rfl⟩;obtain⟨r,hr',rfl⟩:=qF hd;have hk':k<br.length:=(yh.mp hr').1;obtain⟨⟨y,hy⟩,hq⟩:=hbr r (yq hr');have ey:b0 r=y:=by unfold b0;rw[hy];rfl
  have eo:=Vr (wo:=woS hs row kn i j) hbr hwo k (by omega);have en:(br.take (k+1)).foldl (Qn (woS hs row kn i j)) ([],[])=Qn (woS hs row kn i j) ((br.take k).foldl (Qn (woS hs row kn i j)) ([],[])) r:=by rw[Yo hr',qg];rfl
  rw[en];generalize (br.take k).foldl (Qn (woS hs row kn i j)) ([],[])=e at *;refine⟨_,(yT (i:=4) jX.nd rfl (.inl rfl)),?_⟩;refine YC (i:=5) jX.nd rfl (.inl rfl) (ZB (d:=sh (woS hs row kn i j y)) jz yR.c (hr.mono (by decide)) (pq 0 rfl) Ju (yb (Yg (pq 4 rfl) yB rfl) (yb (pq 1 rfl) (yb (pq 2 rfl) yn))) ?_) ?_
  ·refine⟨g,.lst (yG br),ch,kw,row,hs,kn,y,i,j,?_,rfl,hi⟩;rw[hy];rfl
  refine JX (qm (Xi hr.units (pq 5 rfl) (YB yF rfl) j5 j4)) ?_ ?_
  ·intro hz;rw[jR] at hz;have hz:¬ woS hs row kn i j y=0:=by simpa using hz
   have b1:1<=brB k s' t:=by unfold brB;omega
   have gg:=eo.get b1 (x:=r.1);have hB:brB (k+1) s' t<=big:=Ye (xb (by omega)) hbb;rw[WK] at hB;have hw:=hwo y;refine wN (k:=qp r.1) hr.units (pq 3 rfl) (Yg (pq 4 rfl) yB rfl) (eU J6 (hr.mono (by decide)) rfl (ZM (i9 (k:=qp r.1) hr.units (pq 3 rfl) (yD.mpr rfl) (Yg (pq 4 rfl) yB rfl) (YB yF rfl) (ZM (YH (yV (d:=sh (r.2.2*woS hs row kn i j y)) Jo (hr.mono (by decide)) rfl (yb (Yg (pq 4 rfl) yB rfl) (yb (pq 5 rfl) yn)) ?_) (ZH yn ⟨sh ((vA e.1 e.2 r.1).getD 0+r.2.2*woS hs row kn i j y),?_,rfl,_,_,[],List.Perm.refl _,?_,?_⟩))))))
   ·exact⟨r.2.2,woS hs row kn i j y,s',t,rfl,rfl,hq.1,hw.1,hq.2,hw.2,by omega,by omega,trivial⟩
   ·refine⟨(vA e.1 e.2 r.1).getD 0,r.2.2*woS hs row kn i j y,brB k s' t,s'+t,?_,rfl,gg.1,zr hq.1 hw.1,gg.2,v4 hq.2 hw.2,by omega,by omega,trivial⟩;rw[kg Zm];cases vA e.1 e.2 r.1 <;> rfl
   ·rw[yf,sizeLine_eq];have:=eo.len;omega
   ·refine Yb (Yb ⟨_,_,rfl,?_⟩);rw[ab Zm,Xg Zm];unfold Qn;rw[ey,yd hz];rfl
  ·intro hz;rw[jR] at hz;have hz:woS hs row kn i j y=0:=by simpa using hz
   refine Yb (Yb ⟨_,_,rfl,?_⟩);unfold Qn;rw[ey,ye hz]
 ·rintro Γ Ω ⟨x4,x5,rfl,rfl⟩;rw[YX,yK];refine wF (i:=3) rfl ?_;refine Y8 (pq 3 rfl) ?_;rfl
end
section
variable {P:Program}{w:World}{K:W.Frag}{mg:Str->Option Value}{base:Heap}{C_Grammar C_Sums C_Parts:Addr}
variable (P w K mg base C_Sums) in
abbrev iF:Prop:=OkM P w K mg base CX0 38 C_Sums "settle" ["self", "i", "j"] (spS K 3 (omS K C_Sums) (xh C_Sums))
theorem KL (yR:ClsS K C_Sums)(yF:ql K mg "NOUGHT" (sh 0))(d:YD K C_Sums "settle" "Sums.settle" Qz ["self", "i", "j"])(uP:im P w K mg base C_Sums)(qT:Wb P w K mg base):iF P w K mg base C_Sums:=by
 refine iU d Jc rfl cW fun f cdv A outer s H E hr t ds t' r hC B=>?_;obtain⟨i,j,s',u,v,rfl,rfl,rfl,so⟩:=hC;obtain⟨a,b,g,row,hs,br,L,ch,kw,kn⟩:=t;obtain⟨h1,h2,h3,h4,h5,h6,h7,h8,h9,h10⟩:=so;dsimp only at h1 h2 h3 h4 h5 h6 h7 h8 h9 h10;have hB:big=67108864:=rfl;have eo:=Vr (wo:=woS hs row kn i j) h4 (fun x=>aO h5 h6) br.length (yo _);rw[yK] at eo;have ek:=We (wo:=woS hs row kn i j) (e:=([],[])) h3 (fun x hx=>by cases hx);refine JP (i:=3) Jc.nd rfl (.inr rfl) (bg (L:=false) (d:=enD (kL (woS hs row kn i j) br)) (Γ':=[some (sO C_Sums g (qB row) (.lst (Yi hs)) (.lst (yG br)) (chD L ch) (knD kn) kw),some (.int (i:Int)),some (.int (j:Int)),none,none,none]) (ZB uP yR.c (hr.mono (by decide)) (pqc 0 rfl) kR (yb (pq 1 rfl) (yb (pq 2 rfl) yn)) ?_) (UM (i:=0) (j:=5) (a:=a) (b:=b) (xy jC) rfl (yp) rfl (yc _ yp)) (Y4 zd (Y4 Ke za)) fX ?_)
 ·exact⟨g,chD L ch,kw,row,hs,br,kn,i,j,s',u,rfl,rfl,h1,h2,h4,h5,h6,by omega⟩
 unfold Jf;dsimp only;change EnOk (brB br.length s' u) br.length (kL (woS hs row kn i j) br) at eo;change ∀ x∈(kL (woS hs row kn i j) br).1,x∈L at ek;generalize kL (woS hs row kn i j) br=e at *;have b1:1<=brB br.length s' u:=by unfold brB;omega
 refine ut PassesOwn.never rfl (mo (zg (d:=chD L ch) (a:=a) (pqc 0 rfl) yp yR.c yR.n_chains rfl ⟨_,_,rfl,fun k Γ Ω=>∃ x4 x5,Γ=[some (.raw (.ref a)),some (.int (i:Int)),some (.int (j:Int)),some (enD e),x4,x5]/\Ω=omS K C_Sums ⟨a,b,g,row,hs,br,L,ch,kw,(L.take k).foldl (QF L ch e i j) kn⟩,⟨_,_,rfl,rfl⟩,?_,?_⟩))
 ·rintro k d Γ Ω hd ⟨x4,x5,rfl,rfl⟩;rw[←UG] at hd;obtain⟨h,hh,rfl⟩:=jI hd;have hk:k<L.length:=(yh.mp hh).1;have hL:=yq hh;have ps:=xi h7 eo b1 ek hL;have en:(L.take (k+1)).foldl (QF L ch e i j) kn=QF L ch e i j ((L.take k).foldl (QF L ch e i j) kn) h:=by rw[Yo hh,qg];rfl
  have kl:=X0 (L:=L) (ch:=ch) (e:=e) (i:=i) (j:=j) (hs:=L.take k) (kn:=kn);rw[y6] at kl;generalize (L.take k).foldl (QF L ch e i j) kn=kn' at *;refine⟨_,(yT (i:=4) Jc.nd rfl (.inr rfl)),?_⟩;have h7l:=h7.len;refine JP (i:=5) Jc.nd rfl (.inl rfl) (Wi (L:=false) (d:=sh (Kd L ch e h)) (Γ':=[some (.obj C_Sums sF [g,qB row,.lst (Yi hs),.lst (yG br),chD L ch,.raw (.ref b),kw]),some (.int (i:Int)),some (.int (j:Int)),some (enD e),some (.str h),x5]) (yV (d:=sh (Kd L ch e h)) qT (hr.mono (by decide)) rfl (yb (PF3.p (qQ (SX:=yi Qz) (XN:=["self", "i", "j", "ends", "head", "total"]) (N:=["last", "self", "ends", "head"]) (nt:=1) (caps:=[0,3,4]) (pre:=(fun k=>((e.1.take k).map fun o=>(chS L ch h o,(vA e.1 e.2 o).getD 0)).map ju)) ⟨rfl,by decide +kernel,by decide +kernel,by decide +kernel,rfl,by decide +kernel⟩ (Wf (pqc 3 rfl)) ?_ ?_ ?_)) yn) ?_) (zk (i:=0) jC rfl yp J9) (Y4 zd (Y4 Ke za)) rfl ?_)
  ·intro k hk;rw[yf] at hk;rw[yf,yf,y6,sizeLine_eq];have:=eo.len;omega
  ·rfl
  ·intro c k d hd;rw[Yx] at hd;obtain⟨o,ho,rfl⟩:=wQ hd;have hoL:=ek o (yq ho);refine⟨_,(yT (i:=0) (show List.Nodup (α:=Str) ["last", "self", "ends", "head"] by decide +kernel) rfl (.inl rfl)),(Sub.set rfl),.inl ⟨ju (chS L ch h o,(vA e.1 e.2 o).getD 0),Qq,(QE (yb (kI (k:=qp o) (d:=sh (chS L ch h o)) hr.units (kI (k:=qp h) (d:=.dk (L.map qp) (tb L.length fun j=>sh (ch (L.idxOf h) j))) hr.units (jd (pqc 1 rfl) yR.c yR.n_chains rfl) (pqc 3 rfl) ?_) (pq 0 rfl) ?_) (yb (kI (k:=qp o) (d:=sh ((vA e.1 e.2 o).getD 0)) hr.units (pqc 2 rfl) (pq 0 rfl) ?_) yn))),?_⟩⟩
   ·exact eE h7.nd hL
   ·exact eE h7.nd hoL
   ·exact pP eo.eq (yq ho)
   ·dsimp only;rw[Yo ho,yr,yr];rfl
  ·rw[yf,yf,yK];refine⟨K8 L ch e h,max v (brB br.length s' u),rfl,rfl,ps,?_,by omega⟩;rw[ub];refine Ye ?_ h9;unfold cJ;have:=Nat.mul_le_mul_right (4*max v (brB br.length s' u)+2) eo.len;omega
  refine JX (qm (Xi hr.units (pq 5 rfl) (YB yF rfl) j5 j4)) ?_ ?_
  ·intro hz;rw[jR] at hz;have hz:¬ Kd L ch e h=0:=by simpa using hz
   refine Xu (l:=b) (k:=kS (h,i,j)) (kt:=knK kn') (ds:=knV kn') hr.units (zg (d:=.raw (.ref b)) (a:=a) (pqc 0 rfl) yp yR.c yR.n_known_sums rfl ⟨rfl,rfl⟩) (yb (pqc 4 rfl) (yb (pq 1 rfl) (yb (pq 2 rfl) yn))) (pq 5 rfl) (List.Perm.swap ..) ?_ ?_
   ·unfold knK;rw[yf,sizeLine_eq];omega
   ·refine wA (List.Perm.swap ..) (Yb (Yb ⟨_,_,rfl,?_⟩));rw[en];unfold QF;rw[yd hz];unfold omS m9;dsimp only;rw[show knK (pK kn'.1 (h,i,j),pA kn'.1 kn'.2 (h,i,j) (Kd L ch e h))=pK (knK kn') (kS (h,i,j)) from (ab wr).symm,show knV (pK kn'.1 (h,i,j),pA kn'.1 kn'.2 (h,i,j) (Kd L ch e h))=pA (knK kn') (knV kn') (kS (h,i,j)) (sh (Kd L ch e h)) from (Xg wr).symm];rfl
  ·intro hz;rw[jR] at hz;have hz:Kd L ch e h=0:=by simpa using hz
   refine Yb (Yb ⟨_,_,rfl,?_⟩);rw[en];unfold QF;rw[ye hz]
 ·rintro Γ Ω ⟨x4,x5,rfl,rfl⟩;rw[yf,yf,yK];exact Yb ⟨rfl,rfl⟩
end
end Law
namespace L3
open PySem PySem.Spec PySem.Calls PyProof.Rows L2
noncomputable def vW (rs:List yL)(row:List Str)(k:Nat):Kn:=((zh row.length).take k).foldl (Jf (y8 rs) row (yY rs) (Je rs) (zm rs)) ([],[])
theorem eY {rs:List yL}{row:List Str}:vW rs row (zh row.length).length=VG rs row:=by unfold vW;rw[yK];rfl
theorem Uz {rs:List yL}{row:List Str}{k:Nat}{p:Nat×Nat}(h:(zh row.length)[k]?=some p):vW rs row (k+1)=Jf (y8 rs) row (yY rs) (Je rs) (zm rs) (vW rs row k) (p.1,p.2):=by
 unfold vW;rw[Yo h,qg];rfl
theorem bx {n:Nat}{p:Nat×Nat}(h:p∈zh n):p.1<n:=by
 unfold zh at h;obtain⟨l,hl,hp⟩:=List.mem_flatMap.mp h;obtain⟨i,hi,rfl⟩:=yx.mp hp;rw[jL] at hl hi;show i<n;omega
theorem xE {n:Nat}(h:n<=10):(zh n).length<=100:=by
 have:=UQ (n:=n) (i:=n);have e:zh n=uD n n:=rfl;rw[e];have:n*n<=10*10:=qK h h;omega
theorem eB {L:List Str}{ss:List yL}{s:Nat}(hs:∀ r∈ss,0<=r.2.2/\Sz s r.2.2)(h1:1<=s)(hp:Piv L.length (wM2 L ss)):ve L.length L.length (sK s L.length) (chF L ss):=by
 have gI:ve L.length L.length s (idM L):=fun i j _ _=>by
  unfold idM;split
  ·exact⟨by decide,VA.mono h1⟩
  ·exact⟨by decide,V4.mono h1⟩
 have gW:ve L.length L.length s (wM2 L ss):=fun i j _ _=>bP hs h1;have G:=(cj gW gI).at (qV _ _) L.length (yo _) fun k hk=>X7 hp k hk;intro i j hi hj;exact G i (L.length+j) hi (by omega)
theorem rN {n s v:Nat}:∀ k,1<=uK n s v k
 |0=>yo _
 |k+1=>Ye (rN k) (QP ..)
theorem vv {hs row L:List Str}{br:List yL}{ch:Nat->Nat->Rat}:∀ {ps:List (Nat×Nat)} {kn:Kn},(ps.foldl (Jf hs row L br ch) kn).1.length<=kn.1.length+ps.length*L.length
 |[],kn=>by simp
 |p::ps,kn=>by
  rw[YQ,yI];have a:=vv (hs:=hs) (row:=row) (L:=L) (br:=br) (ch:=ch) (ps:=ps) (kn:=Jf hs row L br ch kn p);have b:(Jf hs row L br ch kn p).1.length<=kn.1.length+L.length:=X0;rw[Nat.add_mul,Nat.one_mul];omega
theorem lQ {rs:List yL}{row:List Str}{s:Nat}(so:SumOk rs row s)(chk:ChOk (yY rs) (sK s (yY rs).length) (zm rs))(bro:fQ s (Je rs)):∀ {k:Nat},k<(zh row.length).length->
  uY (uK (Je rs).length s (sK s (yY rs).length) k) (vW rs row k)/\1<=uK (Je rs).length s (sK s (yY rs).length) k/\(vW rs row k).1.length<=100000:=by
 intro k hk;have hl:(vW rs row k).1.length<=100000:=by
  have:=vv (hs:=y8 rs) (row:=row) (L:=yY rs) (br:=Je rs) (ch:=zm rs) (ps:=(zh row.length).take k) (kn:=([],[]));have a:=xE so.wl;have b:((zh row.length).take k).length*(yY rs).length<=100*30:=qK (by rw[y6];omega) so.ll;unfold vW;simp only[Qd] at this;omega
 refine⟨?_,rN k,hl⟩
 clear hl
 induction k with
 |zero=>intro q hq;cases hq
 |succ k ih=>
  have hk':k<(zh row.length).length:=by omega
  have hp:(zh row.length)[k]?=some (zh row.length)[k]:=ym hk';rw[Uz hp];have brl:(Je rs).length<=30:=by
   have a:(Je rs).length<=_:=Ym _ _;have b:(JL (y8 rs) (yY rs) rs).length<=rs.length:=Ym _ _;have:=so.rl;omega
  have hl:(vW rs row k).1.length<=100000:=by
   have:=vv (hs:=y8 rs) (row:=row) (L:=yY rs) (br:=Je rs) (ch:=zm rs) (ps:=(zh row.length).take k) (kn:=([],[]));have a:=xE so.wl;have b:((zh row.length).take k).length*(yY rs).length<=100*30:=qK (by rw[y6];omega) so.ll;unfold vW;simp only[Qd] at this;omega
  exact SetOk.next (t:=⟨0,0,.non,row,y8 rs,Je rs,yY rs,zm rs,.non,vW rs row k⟩) ⟨bx (yq hp),brl,so.hd,bro,ih hk',rN k,chk,(so.bits k hk').1,(so.bits k hk').2,hl⟩
end L3
namespace Law
open PySem L2 L3
section
variable {P:Program}{w:World}{K:W.Frag}{mg:Str->Option Value}{base:Heap}{C_Grammar C_Sums C_Parts:Addr}
variable (P w K mg base C_Grammar C_Sums) in
abbrev am:Prop:=OkI P w K mg base CX0 40 "Sums" C_Sums ["self", "grammar", "row"] (spI K 3 C_Sums (l7 C_Grammar))
theorem lX (z:Zs mg)(yR:ClsS K C_Sums)(yv:ClsG K C_Grammar)(d:zG K mg "Sums" C_Sums "Sums.__init__" qz ["self", "grammar", "row"])(zA:XQ P w K mg base C_Grammar)(Wz:i8 P w K mg base C_Grammar)(JT:Xy P w K mg base C_Grammar)(vR:d9 P w K mg base)(xV:iJ P w K mg base)(vF:ag P w K mg base)(Uk:iF P w K mg base C_Sums):am P w K mg base C_Grammar C_Sums:=by
 refine bv d QJ rfl fun f cdv A outer s H E hr a ds r hC B hB=>?_;obtain⟨st,rs,row,s',rfl,rfl,so⟩:=hC;have hrl:=so.rl;have lrl:(JL (y8 rs) (yY rs) rs).length<=rs.length:=Ym _ _;have brl:(Je rs).length<=30:=by have:(Je rs).length<=_:=Ym _ _;omega
 have ssl:(Wq rs).length<=30:=by have:(Wq rs).length<=_:=Ym _ _;omega
 have brm:∀ r∈Je rs,r∈rs:=fun r hr'=>(Yj.mp (Yj.mp hr').1).1;have ssm:∀ r∈Wq rs,r∈rs:=fun r hr'=>(Yj.mp (Yj.mp hr').1).1;refine YC (i:=3) QJ.nd rfl (.inr rfl) (PF3.p (Jh (ds:=Yi (yY rs)) zA yv.c (hr.mono (by decide)) (pq 1 rfl) Z5 ?_)) ?_
 ·exact⟨st,rs,rfl,rfl⟩
 refine YC (i:=4) QJ.nd rfl (.inl rfl) (yV (d:=.lst (yG (JL (y8 rs) (yY rs) rs))) Wz (hr.mono (by decide)) rfl (yb (pq 1 rfl) yn) ?_) ?_
 ·exact⟨st,rs,rfl,rfl,so.rl,so.body⟩
 refine jS (a:=a) (pq 0 rfl) yR.c yR.n_grammar (YH (pq 1 rfl) ⟨[],[],[],List.Perm.refl _,by simp,by decide,?_⟩);refine jS (a:=a) (pq 0 rfl) yR.c yR.n_row (YH (pq 2 rfl) ⟨_,_,[],List.Perm.refl _,by decide,by decide,?_⟩);refine jS (a:=a) (pq 0 rfl) yR.c yR.n_known_heads (YH (PF3.p (Jh (ds:=Yi (y8 rs)) JT yv.c (hr.mono (by decide)) (pq 1 rfl) Ze ?_)) ⟨_,_,[],List.Perm.refl _,by decide,by decide,?_⟩)
 ·exact⟨st,rs,rfl,rfl⟩
 refine jS (a:=a) (pq 0 rfl) yR.c yR.n_branches (YH (PF3.p (qQ (SX:=yi qz) (XN:=["self", "grammar", "row", "live", "rules", "i", "j"]) (N:=["rule", "live"]) (nt:=1) (caps:=[3]) (pre:=(fun i=>yG (((JL (y8 rs) (yY rs) rs).take i).filter fun r=>!jj (yY rs) r))) ⟨rfl,by decide +kernel,by decide +kernel,by decide +kernel,rfl,by decide +kernel⟩ (qW (pq 4 rfl)) ?_ ?_ ?_)) ⟨_,_,[],List.Perm.refl _,by decide,by decide,?_⟩)
 ·intro i hi;rw[YX,sizeLine_eq];have:=Ym (fun r:yL=>!jj (yY rs) r) ((JL (y8 rs) (yY rs) rs).take i);rw[y6] at this;omega
 ·rfl
 ·intro c i d hd;obtain⟨r,hr',rfl⟩:=qF hd;cases q:jj (yY rs) r with
  |false=>
   refine⟨_,(yT (i:=0) (show List.Nodup (α:=Str) ["rule", "live"] by decide +kernel) rfl (.inl rfl)),(Sub.set rfl),.inl ⟨Qo r,(K7 (bJ (Z4 (yV (d:=.bl false) vR (hr.mono (by decide)) rfl (yb (pq 0 rfl) (yb (pqc 1 rfl) yn)) ?_))) ?_),(pq 0 rfl),?_⟩⟩
   ·exact⟨r,_,rfl,by rw[q]⟩
   ·rfl
   ·show yG (((JL (y8 rs) (yY rs) rs).take (i+1)).filter fun r=>!jj (yY rs) r)=_;rw[Yo hr',Yy,Yl (p:=fun r:yL=>!jj (yY rs) r) (by rw[q];rfl)];unfold yG;rw[yr];rfl
  |true=>
   refine⟨_,(yT (i:=0) (show List.Nodup (α:=Str) ["rule", "live"] by decide +kernel) rfl (.inl rfl)),(Sub.set rfl),.inr ⟨(K7 (bJ (Z4 (yV (d:=.bl true) vR (hr.mono (by decide)) rfl (yb (pq 0 rfl) (yb (pqc 1 rfl) yn)) ?_))) ?_),?_⟩⟩
   ·exact⟨r,_,rfl,by rw[q]⟩
   ·rfl
   ·show yG (((JL (y8 rs) (yY rs) rs).take (i+1)).filter fun r=>!jj (yY rs) r)=_;rw[Yo hr',Yy,Yp (p:=fun r:yL=>!jj (yY rs) r) (by rw[q];decide)];simp
 rw[YX,yK];refine jS (a:=a) (pq 0 rfl) yR.c yR.n_chains (YH (yV (d:=chD (yY rs) (zm rs)) xV (hr.mono (by decide)) rfl (yb (pqc 3 rfl) (yb (PF3.p (qQ (SX:=yi qz) (XN:=["self", "grammar", "row", "live", "rules", "i", "j"]) (N:=["rule", "live"]) (nt:=1) (caps:=[3]) (pre:=(fun i=>yG (((JL (y8 rs) (yY rs) rs).take i).filter (jj (yY rs))))) ⟨rfl,by decide +kernel,by decide +kernel,by decide +kernel,rfl,by decide +kernel⟩ (qW (pq 4 rfl)) ?_ ?_ ?_)) yn)) ?_) ⟨_,_,[],List.Perm.refl _,by decide,by decide,?_⟩)
 ·intro i hi;rw[YX,sizeLine_eq];have:=Ym (jj (yY rs)) ((JL (y8 rs) (yY rs) rs).take i);rw[y6] at this;omega
 ·rfl
 ·intro c i d hd;obtain⟨r,hr',rfl⟩:=qF hd;cases q:jj (yY rs) r with
  |true=>
   refine⟨_,(yT (i:=0) (show List.Nodup (α:=Str) ["rule", "live"] by decide +kernel) rfl (.inl rfl)),(Sub.set rfl),.inl ⟨Qo r,(v8 (Z4 (yV (d:=.bl true) vR (hr.mono (by decide)) rfl (yb (pq 0 rfl) (yb (pqc 1 rfl) yn)) ?_))),(pq 0 rfl),?_⟩⟩
   ·exact⟨r,_,rfl,by rw[q]⟩
   ·show yG (((JL (y8 rs) (yY rs) rs).take (i+1)).filter (jj (yY rs)))=_;rw[Yo hr',Yy,Yl (p:=jj (yY rs)) q];unfold yG;rw[yr];rfl
  |false=>
   refine⟨_,(yT (i:=0) (show List.Nodup (α:=Str) ["rule", "live"] by decide +kernel) rfl (.inl rfl)),(Sub.set rfl),.inr ⟨(v8 (Z4 (yV (d:=.bl false) vR (hr.mono (by decide)) rfl (yb (pq 0 rfl) (yb (pqc 1 rfl) yn)) ?_))),?_⟩⟩
   ·exact⟨r,_,rfl,by rw[q]⟩
   ·show yG (((JL (y8 rs) (yY rs) rs).take (i+1)).filter (jj (yY rs)))=_;rw[Yo hr',Yy,Yp (p:=jj (yY rs)) (by rw[q];decide)];simp
 ·rw[YX,yK];refine⟨yY rs,Wq rs,s',rfl,rfl,so.nd,so.ll,ssl,fun r hr'=>?_,so.keys,fun r hr'=>so.sz r (ssm r hr'),so.s1,so.sk,so.piv⟩;have:=(Yj.mp hr').2;unfold jj at this;split at this
  ·rename_i x hx;exact⟨x,hx⟩
  ·cases this
 refine jS (a:=a) (pq 0 rfl) yR.c yR.n_known_sums (Xz fun b=>⟨_,_,[(b,oDt K [] [])],List.Perm.swap ..,by decide,by decide,?_⟩);refine jS (a:=a) (pq 0 rfl) yR.c yR.n_known_worths (YH oo ⟨_,_,[(b,oDt K [] [])],List.Perm.refl _,by decide,by decide,?_⟩);have chk:ChOk (yY rs) (sK s' (yY rs).length) (zm rs):=⟨so.nd,so.ll,eB (fun r hr'=>so.sz r (ssm r hr')) so.s1 so.piv⟩
 have bro:fQ s' (Je rs):=fun r hr'=>⟨so.one r hr',so.sz r (brm r hr')⟩
 have key:=fun k hk=>lQ (k:=k) so chk bro hk;have wl:=so.wl;refine jP PassesOwn.never rfl (qW (yV (d:=.lst ((zh row.length).map JV)) vF (hr.mono (by decide)) rfl (yb (pq 2 rfl) yn) ?_)) (fun k Γ Ω=>∃ x5 x6,Γ=[some (.raw (.ref a)),some (gD C_Grammar st rs),some (qB row),some (.lst (Yi (yY rs))),some (.lst (yG (JL (y8 rs) (yY rs) rs))),x5,x6]/\Ω=omS K C_Sums ⟨a,b,gD C_Grammar st rs,row,y8 rs,Je rs,yY rs,zm rs,.dt [] [],vW rs row k⟩) ⟨_,_,rfl,rfl⟩ ?_ ?_
 ·exact⟨row,rfl,rfl,so.wl⟩
 ·rintro k d Γ Ω hd ⟨x5,x6,rfl,rfl⟩;obtain⟨p,hp,rfl⟩:=wQ hd;have hk:k<(zh row.length).length:=(yh.mp hp).1;refine⟨_,(Z1 rfl (qr (yT (i:=5) QJ.nd rfl (.inl rfl)) (qr (yT (i:=6) QJ.nd rfl (.inl rfl)) JN))),?_⟩;refine zL (m7 (t:=⟨a,b,gD C_Grammar st rs,row,y8 rs,Je rs,yY rs,zm rs,.dt [] [],vW rs row k⟩) (t':=⟨a,b,gD C_Grammar st rs,row,y8 rs,Je rs,yY rs,zm rs,.dt [] [],vW rs row (k+1)⟩) (d:=.non) (Ω4:=[]) Uk yR.c (hr.mono (by decide)) (pq 0 rfl) yp ug (yb (pq 5 rfl) (yb (pq 6 rfl) yn)) rfl (List.Perm.refl _) ?_ ?_)
  ·exact⟨p.1,p.2,s',_,_,rfl,by rw[Uz hp],rfl,bx (yq hp),brl,so.hd,bro,(key k hk).1,(key k hk).2.1,chk,(so.bits k hk).1,(so.bits k hk).2,(key k hk).2.2⟩
  ·exact Yb ⟨_,_,rfl,rfl⟩
 ·rintro Γ Ω ⟨x5,x6,rfl,rfl⟩;rw[yf];refine iQ (j:=5) rfl (Yb ?_);rw[show vW rs row (zh row.length).length=VG rs row from eY];rfl
end
end Law
namespace L3
open PySem PySem.Spec PySem.Calls PyProof.Rows L2
section
variable {X:Cx}{B:Bs}{Γ:Ga}{Ω:Om}{E:E3}{sts:List Stmt}{o i:Expr}{pos:Pos}{R:D->Om->Prop}
theorem eN (hu:X.A.units+64<cLine)(h:V3 X B o Γ Ω fun d Ω1=>∃ l,d=.raw (.ref l)/\V3 X B i Γ Ω1 fun di Ω2=>∃ ks kvs e,di=kD ks/\(l,Jg X.prog X.w X.K l kvs)∈Ω2/\atD kvs ks=some e/\R e Ω2)(hs:mI i:=by exact fun _ _=>rfl):V3 X B (.Subscript o i pos) Γ Ω R:=fun F σ H S pins s I=>by
 refine bh PySem.F.slot_dict_getitem.lookup hs (thn (h F σ H S pins s I) fun u s1 ⟨x,H1,I1,rx,d,Ω1,F1,S1,f1,i1,l,e1,h1⟩=>thn (h1 F1 σ H1 S1 pins s1 I1) fun iv s2 ⟨y,H2,I2,ry,di,Ω2,F2,S2,f2,i2,ks,kvs,e,e2,m,e3,q⟩=>?_);subst e1 e2;cases isR i1;cases rx;obtain⟨fa,o',ha,ho⟩:=S2.own _ m;obtain⟨xs,rfl,dp⟩:=ho F2 (yW.refl _);obtain⟨c,_,rfl,_⟩:=isT i2;cases ry;obtain⟨h0,dd⟩:=wV I2 ha (dp.mono S2.fh);rcases dp.at (k:=ks) with ⟨_,z⟩|⟨p,d',v,z1,z2,r,iv⟩
 ·rw[e3] at z;cases z
 ·rw[e3] at z2;cases z2;refine⟨?_,wpAny_getItem_heap (show X.A.units+1+1<cLine by omega) (ka I2 (i2.mono S2.fh)) dd z1 ⟨v,H2,I2.tok _,r,e,Ω2,F2,S2,f1.trans f2,iv,q⟩⟩;obtain⟨ob,_,_,g1,g2,_⟩:=dd;exact⟨ob,g1,g2.1⟩
end
def dC (K:W.Frag)(n:Nat)(Cc:Addr)(C0:List D->Prop)(C:List D->List Str×List D->Prop):Sp:=fun vs H Q _=>∃ (a:Addr) (us:List V) (ds:List D) (F:Hp) (dx:Addr),vs=.ref a::us/\ds.length+1=n/\yW F H/\F a=none/\H a=some (.ins Cc dx [])/\IsL K F ds us/\C0 ds/\
 ∀ r,C ds r->∀ (H' F':Hp) (dx':Addr) (xs:List V),yW F F'->yW F' H'->(∀ b o,b≠a->H b=some o->H' b=some o)->(∀ b,F' b≠none->F b≠none∨H b=none)->F' a=none->H' a=some (.ins Cc dx' (r.1.zip xs))->r.1.length=xs.length->IsL K F' r.2 xs->Q .non H'
theorem dC.len {K:W.Frag}{n:Nat}{Cc:Addr}{C0:List D->Prop}{C:List D->List Str×List D->Prop}{vs:List V}{H:Hp}{Q:VK}{E:XK}(h:dC K n Cc C0 C vs H Q E):vs.length=n:=by
 obtain⟨a,us,ds,F,dx,rfl,l,_,_,_,i,_⟩:=h;rw[yI,i.len,l]
theorem ez {P:Program}{w:World}{K:W.Frag}{mg:Str->Option Value}{base:Heap}{x q:Str}{st:Stmt}{N ps:List Str}{k n:Nat}{Cc:Addr}{C0:List D->Prop}{C:List D->List Str×List D->Prop}(d:zG K mg x Cc q st ps)(S:FnScope N ps (yi st))(hn:ps.length=n)
  (body:∀ (f:Addr) (cdv:Value) (A:Around) (outer:List Env) (s:Shared) (H:Hp) (E:XK),Room k (A.deeper (envOfC q (yi st) s.heap.objs.size f cdv))->∀ (a:Addr) (ds:List D),C0 ds->∀ B:Bs,B.M=[a]->
   W3 (cx0 P w K mg base N q st f cdv A outer s H E) B (YT st) (QW N (.raw (.ref a)::ds)) [(a,jG K Cc [] [])] ⟨fun _ Ω=>∃ r,C ds r/\Ω=[(a,jG K Cc r.1 r.2)],fun _ _=>False,fun _ _=>False,fun _ _=>False⟩):OkI P w K mg base CX0 (k+1) x Cc ps (dC K n Cc C0 C):=
 d.ok S (fun vs H Q E h=>(dC.len h).trans hn.symm) fun f cdv A outer s H vs Q E hr h=>⟨_,qL,by
  obtain⟨a,us,ds,F,dx,rfl,hl,fh,fa,ha,il,hC,q⟩:=h;have il':IsL K F (.raw (.ref a)::ds) (.ref a::us):=IsL.cons (Vz F) il;have S0:Sat K ⟨[a],F,H⟩ (QW N (.raw (.ref a)::ds)) [(a,jG K Cc [] [])] F (L2.start N (.ref a::us)) H:=by
   refine⟨yW.refl _,fh,fun _ q=>.inl q,fun _ _ _ e=>e,by simp,fun p hp=>?_,fun p hp=>?_,Sl.start il'⟩
   ·rw[yD.mp hp];exact .inl (by simp)
   ·rw[yD.mp hp];exact⟨fa,_,ha,fun _ _=>⟨dx,[],rfl,rfl,IsL.nil⟩⟩
  refine qS (D:=E3.to K ⟨[a],F,H⟩ F ⟨fun _ Ω=>∃ r,C ds r/\Ω=[(a,jG K Cc r.1 r.2)],fun _ _=>False,fun _ _=>False,fun _ _=>False⟩) (D':={nx:=fun _ H'=>Q .non H',rt:=Q}) ?_ ?_ ?_ ?_ (body f cdv A outer s H E hr a ds hC ⟨[a],F,H⟩ rfl F _ H S0)
  ·rintro σ' H' ⟨Γ',Ω',F',S',f',r,hr',rfl⟩;obtain⟨fa',o,ha',ho⟩:=S'.own (a,jG K Cc r.1 r.2) (by simp);obtain⟨dx',xs,rfl,hl',il2⟩:=ho F' (yW.refl _);refine q r hr' H' F' dx' xs S'.f0 S'.fh (fun b o hb e=>S'.kp b o (by simpa using hb) e) (fun b hb=>?_) fa' ha' hl' il2;rcases S'.fr b hb with z|z|z
   ·exact .inl z
   ·exact .inr z
   ·have e:b=a:=by simpa using z
    subst e;exact absurd fa' hb
  ·rintro v H' ⟨_,_,_,_,_,_,z⟩;exact z.elim
  ·rintro σ' H' ⟨_,_,_,_,_,z⟩;exact z.elim
  ·rintro σ' H' ⟨_,_,_,_,_,z⟩;exact z.elim⟩
section
variable {X:Cx}{B:Bs}{Γ:Ga}{Ω:Om}{ds:List D}{n k:Nat}{Cc:Addr}{x:Str}{ps:List Str}{e:Expr}{es:List Expr}{p pos:Pos}{R:D->Om->Prop}
theorem lS {C0:List D->Prop}{C:List D->List Str×List D->Prop}(ok:OkI X.prog X.w X.K X.mg X.base CX0 k x Cc ps (dC X.K n Cc C0 C))(hr:Room (k+1) X.A)(hg:Gl X x)(ha:PL3 X Γ (e::es) ds)(h0:C0 ds)(h:∀ r,C ds r->R (.obj Cc r.1 r.2) Ω)(hn:ds.length+1=n:=by rfl)(hdb:(x==("__debug__" : Str))=false:=by decide)
  (he:starEach (e::es) X.env=(false,eval e X.env)::starEach es X.env:=by rfl) (hpl:(backTo pos (starEach es X.env)).any (·.1)=false:=by rfl):V3 X B (.Call (.Name x p) (e::es) [] pos) Γ Ω R:=fun F σ H S pins s I=>by
 obtain⟨f,fd,Fn,M,hm,hb⟩:=ok;refine cf M Fn hr hg hm hb .nil kJ ha hdb he hpl pins s σ H _ I ⟨F,S.fh,S.sl,fun vs H1 F1 p1 i1 a dx ha' hdx hne=>?_⟩;rw[y9];have f1:F1 a=none:=p1.fh.free ha';have sm:yW H1 (upd (upd H1 dx (.own a)) a (.ins Cc dx [])):=fun b u e1=>by
  rw[yA (yZ e1 ha'),yA (yZ e1 hdx)];exact e1
 refine⟨a,vs,ds,F1,dx,rfl,hn,p1.fh.trans sm,f1,yN,i1,h0,fun r hC H' F' dx' xs g1 g2 g3 g4 g5 g6 g7 g8=>⟨rfl,?_⟩⟩;have pu:Pur F1 H1 F' H':=by
  refine⟨g1,g2,fun b u e1=>g3 b u (yZ e1 ha') (sm b u e1),fun b e1=>?_⟩;rcases g4 b e1 with z|z
  ·exact .inl z
  ·exact .inr (sm.free z)
 obtain⟨pf,w⟩:=KY pu ha' g5 g6;refine⟨.obj Cc r.1 r.2,Ω,_,S.pur (p1.trans pf),(p1.trans pf).ff,?_,h r hC⟩;simp only[Is];exact⟨a,dx',xs,rfl,yN,g7,g8.mono w⟩
end
section
variable {X:Cx}{B:Bs}{Γ:Ga}{Ω:Om}{o i:Expr}{d:D}{ds:List D}{ks:List Key}{pos:Pos}{R:D->Om->Prop}
end
section
variable {X:Cx}{B:Bs}{Γ:Ga}{Ω:Om}{o a:Expr}{es:List Expr}{k:Nat}{Cc:Addr}{m:Str}{ps:List Str}{pos apos p:Pos}{R:D->Om->Prop}
end
section
variable {X:Cx}{B:Bs}{Γ:Ga}{Ω:Om}{o a e:Expr}{es:List Expr}{k n:Nat}{Cc:Addr}{m:Str}{ps:List Str}{pos apos p:Pos}{R:D->Om->Prop}{ds:List D}
end
end L3
namespace PySem
open Sem (wp)
section
variable {prog:Program}{w:World}{K:Type}[DecidableEq K]{knd:HeapKind prog w K}{A:Around}{E:Value->Shared->Prop}{s:Shared}
theorem VQ {d a:Addr}{xs:List (K×Addr×Value)}{k:K}{v:Value}{Q:Value->Shared->Prop}(hu:knd.room A)(hkey:knd.is s.heap k a)(hm:s.heap.DictOfH knd d xs)
  (hsome:∀ p,atKey xs k=some p->Q p.2 {s with toks:=s.toks+knd.draws k})
  (hnone:atKey xs k=none->∀ h',h'.DictOfH knd d (storedH xs k a v)->Heap.SameBut d s.heap h'->Q v {s with heap:=h',toks:=s.toks+knd.draws k})
  (hsz:xs.length<=sizeLine):wpAny (model prog w) A (dictSetDefault d (.ref a) v) Q E s:=by
 obtain⟨o,es,ep,ho,hc,hd,he,his,hn⟩:=hm;unfold dictSetDefault;refine Yt (ya (knd.pyHash hu hkey (ya (wpAny_dictFind_heap (s:={s with toks:=s.toks+knd.draws k}) hu hkey ho hd he his hn ?_ ?_))))
 ·intro hno;have hat:=atKey_none_of_get hno;have hnot:k∉xs.map (·.1):=not_mem_keys_of_get hno;refine ya (wpAny_rule (ya (wpAny_updateDictKeys (hz:=by have e:=size_of_entries he;omega) (s:={s with toks:=s.toks+knd.draws k}) ho hd (yg (hnone hat _ ⟨_,_,ep+1,Heap.get?_update_self _ ho (Obj.isFreed_of_dict (Obj.data_mapDictKeys hd _)),
   hc.mapDictKeys _,Obj.data_mapDictKeys hd _,?_,?_,?_⟩ (Heap.SameBut.update ..))))))
  ·rw[storedH_new hat];simp[he,entryOfKey]
  ·rw[storedH_new hat];intro x hx;rcases qb.mp hx with hx|hx
   ·exact knd.keeps (his x hx) ho hd (Heap.SameBut.update ..)
   ·simp only[yD] at hx;subst hx;exact knd.keeps hkey ho hd (Heap.SameBut.update ..)
  ·rw[storedH_new hat,yr,qh];refine⟨hn,by simp,fun x hx y hy=>?_⟩;simp only[yy,QB,yD] at hy;subst hy;exact fun e=>hnot (e▸hx)
 ·intro j p hj;refine ya (wpAny_dictEntries (s:={s with toks:=s.toks+knd.draws k}) ho hd ?_);rw[entry_at he j,hj];exact ya (wpAny_rule (yg (hsome p (atKey_of_get hn hj))))
theorem Vl (knd:HeapKind prog w K)(d a:Addr)(hd:(d==sysModules)=false)(v:Value) :
  MeetsIn prog w (Builtin.«dict.setdefault» ⟨[.ref d,.ref a,v],[]⟩) (fun A R s=>knd.room A.in1/\∃ k xs,knd.is s.heap k a/\s.heap.DictOfH knd d xs/\xs.length<=sizeLine/\
   (∀ p,atKey xs k=some p->R (.ok (.ret p.2)) {s with toks:=s.toks+knd.draws k})/\
   (atKey xs k=none->∀ h',h'.DictOfH knd d (storedH xs k a v)->Heap.SameBut d s.heap h'->R (.ok (.ret v)) {s with heap:=h',toks:=s.toks+knd.draws k})):=
 .of_wp fun A R s ⟨hu,k,xs,hkey,hm,hz,h1,h2⟩=>by
  unfold Builtin.«dict.setdefault»;refine ya ?_;unfold Builtin.Dict.keyAndDefault;refine ya (wpAny_notOrdered_dict hm.typeIs ?_);show wpAny _ _ (pure (d,Value.ref a,some v)) _ _ s;refine yg ?_;show wpAny _ _ (if (d==sysModules)=true then _ else (dictSetDefault d (.ref a) v >>= _)) _ _ s;rw[yd (by rw[hd];exact yw)];exact ya (VQ (hsz:=hz) hu hkey hm (fun p hp=>yg ⟨_,rfl,h1 p hp⟩) fun hn h' hm' hs'=>yg ⟨v,rfl,h2 hn h' hm' hs'⟩)
end
end PySem
namespace L3
open PySem PySem.Spec PySem.Calls PyProof.Rows L2
theorem Sat.addAt {K:W.Frag}{B:Bs}{Γ:Ga}{Ω:Om}{F:Hp}{σ:L2.St}{H:Hp}{a:Addr}{w:Ow}(S:Sat K B Γ Ω F σ H)(m:(a,w)∈Ω):∃ o,zV Ω F H a=some o/\w F o:=by
 obtain⟨_,o,h1,h2⟩:=S.own _ m;refine⟨o,?_,h2 F (yW.refl _)⟩;unfold zV;rw[ye (yx.mpr ⟨_,m,rfl⟩)];exact h1
section
variable {X:Cx}{B:Bs}{Γ:Ga}{Ω:Om}{E:E3}{rest:List Stmt}{a o e f:Expr}{es:List Expr}{d:D}{ds:List D}{pos apos cpos p:Pos}{R:D->Om->Prop}
theorem Vp {l:Addr}{kvs:List (List K2×D)}{pins:List (Addr×Obj)}{σ:L2.St}{F H:Hp}{s:Shared}(S:Sat X.K B Γ Ω F σ H)(I:Inv X pins σ H s)(m:(l,Jg X.prog X.w X.K l kvs)∈Ω):∃ xs,H l=some (VN X.prog X.w l xs)/\DP X.K F kvs xs/\(l==sysModules)=false/\s.heap.DictOfH (KR X.prog X.w) l xs:=by
 obtain⟨fa,o',ha,ho⟩:=S.own _ m;obtain⟨xs,rfl,dp⟩:=ho F (yW.refl _);obtain⟨h0,dd⟩:=wV I ha (dp.mono S.fh);exact⟨xs,ha,dp,h0,dd⟩
theorem uc {h:Heap}{l:Addr}{kn:HeapKind X.prog X.w (List K2)}{xs:List (List K2×Addr×Value)}(dd:h.DictOfH kn l xs):∀ b,Value.ref l=.ref b->∃ ob,h.get? b=some ob/\ob.dict=none:=fun b q=>by
 cases q;obtain⟨ob,_,_,h1,h2,_⟩:=dd;exact⟨ob,h1,h2.2.1⟩
theorem oR (hu:X.A.units+64<cLine)(h:V3 X B o Γ Ω fun dq Ω1=>∃ l,dq=.raw (.ref l)/\(∃ kvs,(l,Jg X.prog X.w X.K l kvs)∈Ω1)/\V3 X B e Γ Ω1 fun di Ω2=>∃ ks,di=kD ks/\V3 X B f Γ Ω2 fun df Ω3=>∃ kvs,(l,Jg X.prog X.w X.K l kvs)∈Ω3/\R ((atD kvs ks).getD df) Ω3)
  (m:M2 X o "get" apos e f cpos:=by exact⟨rfl,rfl,rfl,rfl⟩):V3 X B (.Call (.Attribute o "get" apos) [e,f] [] cpos) Γ Ω R:=fun F σ H S pins s I=>by
 refine wpAny_Call_method m.base m.few m.line PySem.F.plainAttrs_dict PySem.F.slot_dict_get PySem.F.type_dict_get (thn (h F σ H S pins s I) fun u s1 ⟨x,H1,I1,rx,dq,Ω1,F1,S1,f1,i1,l,e1,⟨kv0,m1⟩,h1⟩=>?_);subst e1;cases isR i1;cases rx;obtain⟨xs0,_,_,h00,dd0⟩:=Vp S1 I1 m1;refine⟨dd0.typeIs,uc dd0,?_⟩;rw[m.trees];refine Calls.callWith_builtin rfl (Calls.evalArgs_plain (Calls.spliced_cons (thn (h1 F1 σ H1 S1 pins s1 I1) fun iv s2 ⟨y,H2,I2,ry,di,Ω2,F2,S2,f2,i2,ks,e2,h2⟩=>
  Calls.spliced_cons (thn (h2 F2 σ H2 S2 pins s2 I2) fun fv s3 ⟨z,H3,I3,rz,df,Ω3,F3,S3,f3,i3,kvs,m3,r⟩=>Calls.spliced_nil ?_))))
 subst e2;obtain⟨c,_,rfl,_⟩:=isT i2;cases ry;obtain⟨xs,ha,dp,h0,dd⟩:=Vp S3 I3 m3;refine call_meetsIn PySem.F.slot_dict_get dd.typeIs PySem.F.entry_dict_get (PySem.F.args_dict_get_3 _ _ _) (meetsH_dict_get_default (KR X.prog X.w) l c h0 fv) ⟨show X.A.units+1+1<cLine by omega,ks,xs,ka I3 ((i2.mono f3).mono S3.fh),dd,?_⟩;rcases dp.at (k:=ks) with ⟨z1,z2⟩|⟨p,d',v,z1,z2,rv,iv⟩
 ·rw[z1];rw[z2] at r;exact⟨z,H3,I3.tok _,rz,df,Ω3,F3,S3,f1.trans (f2.trans f3),i3,r⟩
 ·rw[z1];rw[z2] at r;exact⟨v,H3,I3.tok _,rv,d',Ω3,F3,S3,f1.trans (f2.trans f3),iv,r⟩
theorem cC (hu:X.A.units+64<cLine)(h:V3 X B o Γ Ω fun dq Ω1=>∃ l,dq=.raw (.ref l)/\(∃ kvs,(l,Jg X.prog X.w X.K l kvs)∈Ω1)/\V3 X B e Γ Ω1 fun di Ω2=>∃ ks,di=kD ks/\V3 X B f Γ Ω2 fun df Ω3=>∃ kvs Ω4,Ω3.Perm ((l,Jg X.prog X.w X.K l kvs)::Ω4)/\kvs.length<sizeLine/\
   (∀ d,atD kvs ks=some d->R d ((l,Jg X.prog X.w X.K l kvs)::Ω4))/\(atD kvs ks=none->R df ((l,Jg X.prog X.w X.K l (kvs++[(ks,df)]))::Ω4)))
  (m:M2 X o "setdefault" apos e f cpos:=by exact⟨rfl,rfl,rfl,rfl⟩):V3 X B (.Call (.Attribute o "setdefault" apos) [e,f] [] cpos) Γ Ω R:=fun F σ H S pins s I=>by
 refine wpAny_Call_method m.base m.few m.line PySem.F.plainAttrs_dict PySem.F.slot_dict_setdefault PySem.F.type_dict_setdefault (thn (h F σ H S pins s I) fun u s1 ⟨x,H1,I1,rx,dq,Ω1,F1,S1,f1,i1,l,e1,⟨kv0,m1⟩,h1⟩=>?_);subst e1;cases isR i1;cases rx;obtain⟨xs0,_,_,h00,dd0⟩:=Vp S1 I1 m1;refine⟨dd0.typeIs,uc dd0,?_⟩;rw[m.trees];refine Calls.callWith_builtin rfl (Calls.evalArgs_plain (Calls.spliced_cons (thn (h1 F1 σ H1 S1 pins s1 I1) fun iv s2 ⟨y,H2,I2,ry,di,Ω2,F2,S2,f2,i2,ks,e2,h2⟩=>
  Calls.spliced_cons (thn (h2 F2 σ H2 S2 pins s2 I2) fun fv s3 ⟨z,H3,I3,rz,df,Ω3,F3,S3,f3,i3,kvs,Ω4,pm,hz,r1,r2⟩=>Calls.spliced_nil ?_))))
 subst e2;obtain⟨c,_,rfl,_⟩:=isT i2;cases ry;have S4:=S3.perm pm.symm;obtain⟨xs,ha,dp,h0,dd⟩:=Vp S4 I3 (l:=l) (kvs:=kvs) yp;have hx:xs.length<=sizeLine:=by rw[←Paired.length dp];omega
 refine call_meetsIn PySem.F.slot_dict_setdefault dd.typeIs PySem.F.entry_dict_setdefault (PySem.F.args_dict_setdefault_3 _ _ _) (Vl (KR X.prog X.w) l c h0 fv) ⟨show X.A.units+1+1<cLine by omega,ks,xs,ka I3 ((i2.mono f3).mono S3.fh),dd,hx,fun p hp=>?_,fun hn h' dd' hs=>?_⟩
 ·rcases dp.at (k:=ks) with ⟨z1,z2⟩|⟨p',d',v,z1,z2,rv,iv⟩
  ·rw[hp] at z1;cases z1
  ·rw[hp] at z1;cases z1;exact⟨v,H3,I3.tok _,rv,d',_,F3,S4,f1.trans (f2.trans f3),iv,r1 _ z2⟩
 ·rcases dp.at (k:=ks) with ⟨z1,z2⟩|⟨p',d',v,z1,z2,rv,iv⟩
  ·have en:X9 kvs ks df=kvs++[(ks,df)]:=by unfold X9;rw[z2];rfl
   obtain⟨o',es',ep,y1,y2,y3,y4,_,y5⟩:=dd';have I4:=I3.write (x:=l) (e:=l) (t':=s3.toks+(KR X.prog X.w).draws ks) (by rw[ha];exact True.intro) (.inl rfl) (fun c q hb z=>(hs.2 c hb).trans z) ⟨o',y1⟩ (Wo ⟨h0,o',es',ep,y1,y2,y3,y4,y5⟩);refine⟨z,_,I4,rz,df,_,F3,?_,f1.trans (f2.trans f3),i3,r2 z2⟩;rw[←en];exact S4.turn fun F5 e5=>⟨_,rfl,DP.put (dp.mono e5) ((i2.mono f3).mono e5) rz (i3.mono e5)⟩
  ·rw[hn] at z1;cases z1
theorem cL (ho:V3 X B o Γ Ω fun dq Ω1=>∃ l ds0,dq=.raw (.ref l)/\(l,Q3 X.K ds0)∈Ω1/\V3 X B e Γ Ω1 fun d Ω2=>∃ ds Ω3,Ω2.Perm ((l,Q3 X.K ds)::Ω3)/\ds.length<sizeLine/\W3 X B rest Γ ((l,Q3 X.K (ds++[d]))::Ω3) E)
  (hs:∀ {t:TE},PE X (.Call (.Attribute o "append" apos) [e] [] cpos) t->PS X (.Expr (.Call (.Attribute o "append" apos) [e] [] cpos) pos) (bX t):=by exact fun h=>VL h)
  (hst:starEach [e] X.env=(false,eval e X.env)::starEach [] X.env:=by rfl)
  (hp:∀ {to:TE} {ta:TA},PE X o to->PA X [e] ta->PE X (.Call (.Attribute o "append" apos) [e] [] cpos) (tBM X.K "list" wW to ta):=by exact fun a b=>i7 PySem.F.plainAttrs_list PySem.F.slot_list_append PySem.F.type_list_append VS a b) :
  W3 X B (.Expr (.Call (.Attribute o "append" apos) [e] [] cpos) pos::rest) Γ Ω E:=fun F σ H S pins s I=>by
 refine Y7 (hs (hp JM (vP JM uf hst))) qL pins s σ H _ I ((ho F σ H S).mono fun v H1 ⟨dq,Ω1,F1,S1,f1,i1,l,ds0,e1,m1,h1⟩=>?_);subst e1;cases isR i1;obtain⟨fa,o0,ha,ho0⟩:=S1.own _ m1;obtain⟨xs0,rfl,il0⟩:=ho0 F1 (yW.refl _);refine⟨.inl ⟨rfl,_,SqL.of ha⟩,(h1 F1 σ H1 S1).mono fun y H2 ⟨d,Ω2,F2,S2',f2,i2,ds,Ω3,pm,hz,h2⟩=>?_⟩;have S2:=S2'.perm pm.symm;obtain⟨fa',o',ha',ho'⟩:=S2.own (l,Q3 X.K ds) (by simp);obtain⟨xs,rfl,il⟩:=ho' F2 (yW.refl _);exact⟨l,xs,y,rfl,rfl,ha',by rw[il.len];exact hz,Y5 (f1.trans f2) (h2 F2 σ _ (S2.turn fun F3 e3=>⟨_,rfl,(il.mono e3).append (IsL.cons (i2.mono e3) IsL.nil)⟩))⟩
theorem mB {L:Bool}{n k:Nat}{C:List D->D->Prop}{x:Str}{ps:List Str}(ok:OkF X.prog X.w X.K X.mg X.base CX0 k x ps (spP X.K 1 C))(hr:Room k X.A)(hg:Gl X x)(h:V3 X B e Γ Ω fun dq Ω1=>∃ l ds d,dq=.raw (.ref l)/\(l,Q3 X.K ds)∈Ω1/\ao L Ω1/\C [.lst ds] d/\Jr L d=true/\R d Ω1)(hdb:(x==("__debug__" : Str))=false:=by decide)
  (he:starEach [e] X.env=(false,eval e X.env)::starEach [] X.env:=by rfl) (hpl:(backTo pos (starEach [] X.env)).any (·.1)=false:=by rfl):V3 X B (.Call (.Name x p) [e] [] pos) Γ Ω R:=fun F σ H S pins s I=>
 e6 ok hr hg (vP JM uf he) hdb he hpl pins s σ H _ I ((h F σ H S).mono fun v H1 ⟨dq,Ω1,F1,S1,f1,i1,l,ds,d,e1,m,hd,hC,hs,r⟩=>by
  subst e1;cases isR i1;obtain⟨o',h1,xs,rfl,il⟩:=S1.addAt m;show spP X.K 1 C ([V.ref l]++[]) H1 (VR X.K B Γ F σ R) E0;rw[y9];exact⟨[.lst ds],d,zV Ω1 F1 H1,hC,rfl,S1.addSub,IsL.cons (Is.lstI (.inl h1) (il.mono S1.addSame)) IsL.nil,fun v H2 F2 p2 i2=>⟨d,Ω1,Ve Ω1 F2,S1.pur (S1.back p2),f1.trans (S1.back p2).ff,wI (S1.hard hd p2) hs i2,r⟩⟩)
theorem fC {C:Addr}{fd:Str}{fs:List Str}(c:Cls X.K C)(n:qM X.K C fd)(h:V3 X B e Γ Ω fun dq Ω1=>∃ gs d,dq=.obj C fs gs/\(fs.zip gs).lookup fd=some d/\R d Ω1)(hb:attributeBase e fd X.env (eval e X.env)=eval e X.env:=by rfl):V3 X B (.Attribute e fd pos) Γ Ω R:=fun F σ H S pins s I=>
 XJ JM hb pins s σ H _ I ((h F σ H S).mono fun v H1 ⟨dq,Ω1,F1,S1,f1,i1,gs,d,e1,l,r⟩=>by
  subst e1;obtain⟨a,dx,xs,rfl,ha,hl,il⟩:=isO i1;obtain⟨x,h1,h2⟩:=ww il l;exact⟨a,C,dx,_,x,rfl,S1.fh _ _ ha,c,n,h1,d,Ω1,F1,S1,f1,h2,r⟩)
end
section
variable {X:Cx}{B:Bs}{Γ:Ga}{Ω:Om}{a b:Expr}{pos:Pos}{d d':D}{ds es:List D}
end
end L3
namespace PySem
open Sem (wp)
section
variable {prog:Program}{w:World}{A:Around}{E:Value->Shared->Prop}{s:Shared}
end
namespace RV
end RV
section
variable {prog:Program}{w:World}{A:Around}{E:Value->Shared->Prop}{s:Shared}
end
section
variable {prog:Program}{w:World}{A:Around}{E:Value->Shared->Prop}{s:Shared}{R:Result->Shared->Prop}{I S:Addr}{T:String}{n:Nat}{St:Nat->Shared->Prop}{Fin':Shared->Prop}
end
end PySem
namespace L2
open PySem PySem.Spec PySem.Calls PyProof.Rows
end L2
namespace L3
open PySem PySem.Spec PySem.Calls PyProof.Rows L2
section
variable {X:Cx}{Γ:Ga}{ds es:List D}{pos p:Pos}{a b:Expr}
end
section
variable {X:Cx}{pins:List (Addr×Obj)}{σ:L2.St}{F H1:Hp}{I S:Addr}{T:String}{fp:List Addr}{ws:List D}{ZS:Nat->Heap->Prop}
end
section
variable {X:Cx}{Γ:Ga}{ds es:List D}{pos p pos' p':Pos}{a b:Expr}
theorem xc:bootBuiltins "reversed" = some (.type "reversed"):=by decide +kernel
end
end L3
namespace L2
open PySem PySem.Spec PySem.Calls PyProof.Rows
def sB (K:W.Frag)(a:Addr)(n:Nat):It:=
 ⟨fun i H=>∃ xs,SqL K H a xs/\xs.length=n/\i<n,fun i H x H'=>H'=H/\∀ xs,SqL K H a xs->xs[n - 1 - i]?=some x,fun i H=>n<=i⟩
theorem iI {P:Program}{w:World}{K:W.Frag}{tg:Expr}(a it:Addr)(n:Nat):Turn P w K tg (sB K a n) [it] it (fun i h=>i<=n/\h.IsRevIter it a ((n:Int) - 1 - (i:Int))) where
 mem:=by simp
 obj:=fun i h st b hb=>by
  have e:b=it:=by simpa using hb
  subst e;obtain⟨_,o,e,c,d⟩:=st;exact⟨o,e,fun v z=>by rw[d] at z;cases z⟩
 keep:=fun i h h' st k=>⟨st.1,st.2.at fun o e=>k it (by simp) o e⟩
 item:=by
  intro X hP hw hK hc i pins s σ H E I hf st hg;subst hP hw hK;obtain⟨xs,hq,hn,hi⟩:=hg;obtain⟨its,rv,p,hz⟩:=I.list hq;obtain⟨x,hx⟩:∃ x,xs[n - 1 - i]?=some x:=⟨_,ym (by omega)⟩
  obtain⟨u,hu,ru⟩:=rv.get hx;obtain⟨f0,f1,f2,f3,f4,f5⟩:=hf it (by simp)
  replace st:=st.2
  have e:(n:Int) - 1 - (i:Int)=((n - 1 - i:Nat):Int):=by omega
  rw[e] at st;refine wpAny_pyNext_rev_item st p.isList (x:=u) (by simpa using hu) fun h' st' sb=>?_;have I1:Inv X pins σ H {s with heap:=h'}:=I.turned (t':=s.toks) (fun b o hb e=>(sb.2 b hb).trans e) f0 f1 f3 f4 f5;have e2:((n - 1 - i:Nat):Int) - 1=(n:Int) - 1 - ((i+1:Nat):Int):=by omega
  rw[e2] at st';obtain⟨o,e,c,d⟩:=id st';exact⟨u,rfl,xN (s:={s with heap:=h'}) e c d (by decide) ⟨x,H,I1,ru,⟨rfl,fun ys hy=>by rw[I.list_inj hy hq];exact hx⟩,⟨hi,st'⟩,fun b hb=>(hf b hb).1⟩⟩
 done:=by
  intro X hP hw hK hc i pins s σ H E I hf st hg;subst hP hw hK;obtain⟨f0,f1,f2,f3,f4,f5⟩:=hf it (by simp);obtain⟨hi,st⟩:=st;have hg':n<=i:=hg;have e:(n:Int) - 1 - (i:Int)=-1:=by omega
  rw[e] at st;exact wpAny_pyNext_rev_end (I.ok.hd hc) st fun h' eb=>⟨rfl,I.turned (t':=s.toks) (fun b o hb e=>eb b o hb e) f0 f1 f3 f4 f5⟩
 self:=fun _ _ _ _ _ st h=>wpAny_pyIter_revIter st.2 h
def AH (K:W.Frag)(ta:TA):TI:=fun σ H R=>ta σ H fun vs H1=>∃ a xs,vs=[.ref a]/\SqL K H1 a xs/\R (sB K a xs.length) H1
theorem o8 {X:Cx}{tg a:Expr}{ta:TA}{p pos:Pos}(hg:Gl X "reversed")(hm:X.mg "reversed" = none)(ha:PA X [a] ta)(hs:starEach [a] X.env=(false,eval a X.env)::starEach [] X.env:=by rfl):PI X tg (.Call (.Name "reversed" p) [a] [] pos) (AH X.K ta):=by
 intro pins s σ H R I h;refine Call_ (ZG I hg hm L3.xc (PyProof.Rows.callWith_type1 (thn (ha pos pins s σ H _ I h) fun us s1 ⟨vs,H1,I1,r1,q1⟩=>?_) hs (by rfl)));obtain⟨l,xs,e,hl,q⟩:=q1;subst e;cases r1 with
 |cons r rr=>
  cases rr;cases r;obtain⟨its,rv,p1,_⟩:=I1.list hl;refine call_reversed_list p1.isList ?_;have hv:=rv.length;have ev:((its.toArray.size:Nat):Int) - 1=(xs.length:Int) - 1 - ((0:Nat):Int):=by simp;omega
  rw[ev];have g1:(s1.heap.push (revObj l ((xs.length:Int) - 1 - ((0:Nat):Int)))).IsRevIter s1.heap.objs.size l ((xs.length:Int) - 1 - ((0:Nat):Int)):=⟨_,yu _ rfl,rfl,rfl⟩
  refine wpAny_pyIter_revIter g1 ?_;exact⟨s1.heap.objs.size,[s1.heap.objs.size],_,_,H1,rfl,I1.kept (t':=s1.toks) fun b o e=>yk _ e,iI l _ _,⟨qU _,g1⟩,fun b hb=>by
   have e:b=s1.heap.objs.size:=by simpa using hb
   subst e;exact I1.fpOk (yo _) (I1.hok.fresh (yo _)),q⟩
end L2
namespace L3
open PySem PySem.Spec PySem.Calls PyProof.Rows L2
section
variable {X:Cx}{B:Bs}{Γ:Ga}{Ω:Om}{tg a:Expr}{pos p:Pos}{RL:List D->Om->Prop}
theorem rV (hm:X.mg "reversed" = none)(hg:Gl X "reversed")(h:V3 X B a Γ Ω fun d Ω1=>∃ ds,d=.lst ds/\RL ds.reverse Ω1)(hs:starEach [a] X.env=(false,eval a X.env)::starEach [] X.env:=by rfl):IV3 X B tg (.Call (.Name "reversed" p) [a] [] pos) Γ Ω RL:=fun F σ H S pins s I=>
 o8 hg hm (vP JM uf hs) hs pins s σ H _ I ((h F σ H S).mono fun v H1 ⟨d,Ω1,F1,S1,f1,i1,ds,e1,r⟩=>by
  subst e1;obtain⟨l,xs,rfl,s1,j1⟩:=JK i1;have hl:=j1.len;refine⟨l,xs,rfl,S1.fh.seq s1,ds.reverse,Ω1,F1,S1,f1,fun n F2 H2 e1 e2=>⟨fun d w=>?_,fun w=>?_⟩,r⟩
  ·have hn:n<ds.length:=by have:=(yh.mp w).1;simpa using this
   rw[List.getElem?_reverse hn] at w;obtain⟨x,hx,ix⟩:=j1.get w;refine⟨⟨xs,(e1.trans e2).seq s1,rfl,by omega⟩,fun y H3 ⟨z,w'⟩=>?_⟩;subst z;have:=w' xs ((e1.trans e2).seq s1);rw[hl,hx] at this;cases this;exact⟨F2,Pur.refl e2,ix.mono e1⟩
  ·rw[List.length_reverse] at w;show xs.length<=n;omega)
end
end L3
namespace PySem
open Sem (wp)
def xB (h:Heap)(d:Addr)(es:Array DictEntry)(ep:Nat):Prop:=∃ o,h.get? d=some o/\o.ExactDict/\o.data=.dict es ep
theorem xB.typeIs {s:Shared}{d:Addr}{es:Array DictEntry}{ep:Nat}(x:xB s.heap d es ep):s.TypeIs (.ref d) "dict" := let ⟨o,h1,h2,_⟩:=x;⟨o,h1,h2.1⟩
section
variable {prog:Program}{w:World}{A:Around}{E:Value->Shared->Prop}{s:Shared}{d it:Addr}{es:Array DictEntry}{ep i:Nat}
theorem aE {Q:Value->Shared->Prop}(hd:(d==sysModules)=false)(hm:xB s.heap d es ep)
  (hQ:Q (.ref s.heap.objs.size) {s with heap:=s.heap.push {cls:=.type "dict_keyiterator", data:=.fields #[.ref d,.int 0 0,.int es.size 0,.int ep 0]}}):wpAny (model prog w) A (pyIter (.ref d)) Q E s:=by
 obtain⟨o,ho,hc,hdat⟩:=id hm;refine wpAny_pyIter_slot hm.typeIs F.slot_dict_iter (wpAny_call_entry F.slot_dict_iter hm.typeIs F.entry_dict_iter ?_ (F.args_dict_iter_1 _));unfold Builtin.«dict.__iter__» Builtin.Dict.dictSlotNone;refine ya (ya (wpAny_notOrdered_dict hm.typeIs ?_));show wpAny _ _ (pure (Value.ref d)) _ _ s;refine yg ?_;show wpAny _ _ (Builtin.Dict.showsAll d >>= _) _ _ s;unfold Builtin.Dict.showsAll;rw[yd (by rw[hd];exact yw)];exact ya (yg (ya (wpAny_dictEntries ho hdat (ya (wpAny_dictEpoch ho hdat (ya (wpAny_newObj_type (yg ⟨_,rfl,"dict_keyiterator", _,⟨_,yu _ rfl,rfl⟩,F.slot_dict_keyiterator_next.lookup,hQ⟩))))))))
theorem Xl {e:DictEntry}{Q:Option Value->Shared->Prop}(hit:s.heap.IsKeyIter it d i es.size ep)(hm:xB s.heap d es ep)(hx:es[i]?=some e)
  (hQ:∀ h',h'.IsKeyIter it d (i+1) es.size ep->Heap.SameBut it s.heap h'->Q (some e.key) {s with heap:=h'}):wpAny (model prog w) A (pyNext (.ref it)) Q E s:=by
 obtain⟨o,ho,hc,hd⟩:=id hit;obtain⟨od,hod,hcd,hdd⟩:=id hm;have hit':(s.heap.update it (Obj.mapFields (·.setIfInBounds 1 (rawInt ((i:Int)+1))))).IsKeyIter it d (i+1) es.size ep:=
  ⟨_,Heap.get?_update_self _ ho (Obj.isFreed_of_fields (Obj.data_mapFields hd _)),(Obj.cls_mapFields ..).trans hc,by rw[Obj.data_mapFields hd];simp[rawInt]⟩
 unfold pyNext;refine ya (wpAny_attempt (wpAny_callSpecial?_slot (name:=Str.ofString "__next__") hit.typeIs F.slot_dict_keyiterator_next
  (wpAny_call_entry F.slot_dict_keyiterator_next hit.typeIs F.entry_dict_keyiterator_next ?_ (F.args_dict_keyiterator_next_1 _))))
 refine ya (yg (ya (ya ?_)))
 first|refine ya (wpAny_typeNameOfWhole_keyiter hit.typeIs (yg ?_))|refine ya (wpAny_typeNameOf_keyiter hit.typeIs (yg ?_))
 refine ya (wpAny_fieldsOf ho hd ?_);simp only[show Builtin.Dict_items.ownsTuple "dict_keyiterator" = false by decide,YO,if_false];show wpAny _ _ (if (Value.ref d==Value.none)=true then _ else _) _ _ s;rw[yd (show ¬ ((Value.ref d==Value.none)=true) from yw)];refine ya (yg (ya (wpAny_dictEntries hod hdd ?_)));rw[yd (by simp)];refine ya (yg (ya (wpAny_dictEpoch hod hdd ?_)));rw[yd (by simp)];refine yg ?_;simp only[show ¬ ((i:Int)<0) from by omega,if_false,Qe,hx];refine ya ?_
 first|refine ya (wpAny_typeNameOfWhole_keyiter hit.typeIs (yg ?_))|refine ya (wpAny_typeNameOf_keyiter hit.typeIs (yg ?_))
 refine ya (wpAny_isOneOf_keyiter hit.typeIs ?_);show wpAny _ _ (setField (.ref it) 1 (rawInt ((i:Int)+1)) >>= _) _ _ s;refine ya (wpAny_setField ho hd (by simp) (ya (Yt ?_)));refine ya (wpAny_isOneOf_keyiter (s:={s with heap:=s.heap.update it (Obj.mapFields (·.setIfInBounds 1 (rawInt ((i:Int)+1))))}) hit'.typeIs ?_);show wpAny _ _ (pure e.key) _ _ _;exact yg (yg ⟨_,rfl,yg (hQ _ hit' (Heap.SameBut.update ..))⟩)
theorem dw {Q:Option Value->Shared->Prop}(hh:A.handled=none)(hit:s.heap.IsKeyIter it d i es.size ep)(hm:xB s.heap d es ep)(hx:es.size<=i)
  (hQ:∀ h',Heap.ExtBut it s.heap h'->Q none {s with heap:=h'}):wpAny (model prog w) A (pyNext (.ref it)) Q E s:=by
 obtain⟨o,ho,hc,hd⟩:=id hit;obtain⟨od,hod,hcd,hdd⟩:=id hm;unfold pyNext;refine ya (wpAny_attempt (wpAny_callSpecial?_slot (name:=Str.ofString "__next__") hit.typeIs F.slot_dict_keyiterator_next
  (wpAny_call_entry F.slot_dict_keyiterator_next hit.typeIs F.entry_dict_keyiterator_next ?_ (F.args_dict_keyiterator_next_1 _))))
 refine ya (yg (ya (ya ?_)))
 first|refine ya (wpAny_typeNameOfWhole_keyiter hit.typeIs (yg ?_))|refine ya (wpAny_typeNameOf_keyiter hit.typeIs (yg ?_))
 refine ya (wpAny_fieldsOf ho hd ?_);simp only[show Builtin.Dict_items.ownsTuple "dict_keyiterator" = false by decide,YO,if_false];show wpAny _ _ (if (Value.ref d==Value.none)=true then _ else _) _ _ s;rw[yd (show ¬ ((Value.ref d==Value.none)=true) from yw)];refine ya (yg (ya (wpAny_dictEntries hod hdd ?_)));rw[yd (by simp)];refine ya (yg (ya (wpAny_dictEpoch hod hdd ?_)));rw[yd (by simp)];refine yg ?_;simp only[show ¬ ((i:Int)<0) from by omega,if_false,Qe,Array.getElem?_eq_none hx];refine ya ?_
 first|refine ya (wpAny_typeNameOfWhole_keyiter hit.typeIs (yg ?_))|refine ya (wpAny_typeNameOf_keyiter hit.typeIs (yg ?_))
 show wpAny _ _ (setField (.ref it) 0 .none >>= _) _ _ s;refine ya (wpAny_setField ho hd (by simp) ?_);show wpAny _ _ (newExc (.type "StopIteration") [] >>= _) _ _ _;refine ya ?_;simp only[newExc,newTuple];refine ya (wpAny_newObj_type (ya (m:=firstArgMember _ _) (wpAny_of_eq (a:=Value.none) (by first|rfl|(simp only[firstArgMember];rfl)) (wpAny_newObj_type ?_ (by size_fits)))) (by size_fits));simp only[raiseNew];refine ya (wpAny_handled ?_);rw[show A.in1.handled=none from hh];refine ya (yg (wpAny_throw ?_));refine ya (wpAny_isInstance (T:="StopIteration") (b:=true) ⟨_,yu _ rfl,rfl⟩ isSubtype_stop ?_);exact yg (hQ _ (((Heap.SameBut.update ..).extBut.push _).push _))
end
end PySem
namespace L2
open PySem PySem.Spec PySem.Calls PyProof.Rows
section
variable {X:Cx}{pins:List (Addr×Obj)}{σ:St}{H:Hp}{s:Shared}{a:Addr}
def nR:HO->Bool
 |.ext _=>true
 |_=>false
theorem HOk.knownX {P:Program}{w:World}{h:Heap}{u:HO}{o:Obj}(ok:HOk P w H h)(e:H a=some u)(d:nR u=true)(ho:h.get? a=some o):HOk P w (upd H a (.frz o u)) h:=fun b v q=>by
 have nown:∀ c y,H c=some (.own y)->c≠a:=fun c y r z=>by subst z;rw[e] at r;cases r;cases d
 have ntup:∀ c xs,H c=some (.tup xs)->c≠a:=fun c xs r z=>by subst z;rw[e] at r;cases r;cases d
 have st:∀ {b:Addr} {v:HO},qP P w H h b v->qP P w (upd H a (.frz o u)) h b v:=fun {b v} x=>x.stay (fun _ _ _ z=>z) (fun c z=>by rw[yA (nown c _ z)];exact z) fun c xs z=>by rw[yA (ntup c _ z)];exact z
 by_cases hb:b=a
 ·subst hb;rw[yN] at q;cases q;exact⟨ho,st (ok _ _ e)⟩
 ·rw[yA hb] at q;exact st (ok _ _ q)
theorem Inv.knownX {u:HO}{o:Obj}(I:Inv X pins σ H s)(e:H a=some u)(d:nR u=true)(ho:s.heap.get? a=some o):Inv X pins σ (upd H a (.frz o u)) s:=by
 have nn:∀ b,H b=none->upd H a (.frz o u) b=none:=fun b z=>by
  rw[yA (fun y=>by subst y;rw[e] at z;cases z)];exact z
 refine⟨I.ok,I.os,I.bare,⟨I.base.keep,I.base.slot,fun b o' q n hx=>nn b (I.base.free b o' q n hx),I.base.there,fun b xs q=>?_,fun b o' v q=>?_,fun b ps q=>?_⟩,I.loc,I.cell,nn _ I.free,fun x c q=>nn _ (I.freeC x c q),fun p hp=>?_,I.hok.knownX e d ho,I.len⟩
 ·have z:=I.base.tups b xs q;rw[yA (fun y=>by subst y;rw[e] at z;cases z;cases d)];exact z
 ·have z:=I.base.frzs b o' v q;rw[yA (fun y=>by subst y;rw[e] at z;cases z;cases d)];exact z
 ·obtain⟨m,z⟩:=I.base.tbls b ps q;exact⟨m,by rw[yA (fun y=>by subst y;rw[e] at z;cases z;cases d)];exact z⟩
 ·obtain⟨q1,q2,q3⟩:=I.pin p hp;exact⟨q1,nn _ q2,q3⟩
end
def Af (a:Addr)(o:Obj)(u:HO)(ks:List Addr):It:=
 ⟨fun i H=>H a=some (.frz o u)/\i<ks.length,fun i H x H'=>H'=H/\∃ k,ks[i]?=some k/\x=.ref k,fun i H=>H a=some (.frz o u)/\ks.length<=i⟩
theorem XG {P:Program}{w:World}{K:W.Frag}{tg:Expr}{a it:Addr}{o:Obj}{u:HO}{es:Array DictEntry}{ep:Nat}{ks:List Addr}(hx:o.ExactDict)(hd:o.data=.dict es ep)(hk:es.toList.map (·.key)=ks.map Value.ref):Turn P w K tg (Af a o u ks) [it] it (fun i h=>h.IsKeyIter it a i es.size ep) where
 mem:=by simp
 obj:=fun i h st b hb=>by
  have e:b=it:=by simpa using hb
  subst e;obtain⟨o,e,c,d⟩:=st;exact⟨o,e,fun v z=>by rw[d] at z;cases z⟩
 keep:=fun i h h' st k=>st.at fun o e=>k it (by simp) o e
 item:=by
  intro X hP hw hK hc i pins s σ H E I hf st hg;subst hP hw hK;obtain⟨ha,hi⟩:=hg;obtain⟨f0,f1,f2,f3,f4,f5⟩:=hf it (by simp);obtain⟨ho,_⟩:=(show qP X.prog X.w H s.heap a (.frz o u) from I.hok a _ ha)
  have hl:es.size=ks.length:=by have:=congrArg List.length hk;simpa using this
  have hx':es[i]?=some es[i]:=Array.getElem?_eq_getElem (by omega);have ek:es[i].key=.ref ks[i]:=by
   have:=congrArg (·[i]?) hk;simp only[yl,Array.getElem?_toList,hx',ym hi,Option.map_some,Option.some.injEq] at this;exact this
  refine Xl st ⟨o,ho,hx,hd⟩ hx' fun h' st' sb=>?_;have I1:Inv X pins σ H {s with heap:=h'}:=I.turned (t':=s.toks) (fun b o hb e=>(sb.2 b hb).trans e) f0 f1 f3 f4 f5;refine⟨_,rfl,letGo_keyiter st' ⟨.ref ks[i],H,I1,?_,⟨rfl,_,ym hi,rfl⟩,st',fun b hb=>(hf b hb).1⟩⟩;exact ek
 done:=by
  intro X hP hw hK hc i pins s σ H E I hf st hg;subst hP hw hK;obtain⟨ha,hi⟩:=hg;obtain⟨f0,f1,f2,f3,f4,f5⟩:=hf it (by simp);obtain⟨ho,_⟩:=(show qP X.prog X.w H s.heap a (.frz o u) from I.hok a _ ha)
  have hl:es.size=ks.length:=by have:=congrArg List.length hk;simpa using this
  exact dw (I.ok.hd hc) st ⟨o,ho,hx,hd⟩ (by omega) fun h' eb=>⟨rfl,I.turned (t':=s.toks) (fun b o hb e=>eb b o hb e) f0 f1 f3 f4 f5⟩
 self:=fun _ _ _ _ _ st h=>wpAny_pyIter_keyiter st h
end L2
namespace L3
open PySem PySem.Spec PySem.Calls PyProof.Rows L2
theorem UT {α β:Type}{F:α->β->Prop}:∀ {l:List α} {m:List β} {n:Nat} {x:α} {y:β},Paired F l m->l[n]?=some x->m[n]?=some y->F x y
 |_,_,_,_,_,.nil,h,_=>by simp at h
 |_,_,0,_,_,.cons r _,h,h'=>by
  simp only[List.getElem?_cons_zero,Option.some.injEq] at h h';subst h h';exact r
 |_,_,n+1,_,_,.cons _ t,h,h'=>by
  simp only[List.getElem?_cons_succ] at h h';exact UT t h h'
section
variable {X:Cx}{B:Bs}{Γ:Ga}{Ω:Om}{tg e:Expr}{RL:List D->Om->Prop}
theorem nj (h:V3 X B e Γ Ω fun dq Ω1=>∃ l kvs Ω4,dq=.raw (.ref l)/\Ω1.Perm ((l,Jg X.prog X.w X.K l kvs)::Ω4)/\RL (kvs.map fun p=>kD p.1) Ω4):IV3 X B tg e Γ Ω RL:=fun F σ H S pins s I=>
 thn (h F σ H S pins s I) fun u s1 ⟨x,H1,I1,rx,dq,Ω1,F1,S1',f1,i1,l,kvs,Ω4,e1,pm,r⟩=>by
  subst e1;cases isR i1;cases rx;have S1:=S1'.perm pm.symm;obtain⟨xs,ha,dp,h0,o,es,ep,g1,g2,g3,g4,g5,g6⟩:=Vp S1 I1 (l:=l) (kvs:=kvs) (by simp);have fa:=(S1.own (l,Jg X.prog X.w X.K l kvs) (by simp)).1;have nin:=(Yc.mp S1.nd).1;refine aE h0 ⟨o,g1,g2,g3⟩ ?_;have I2:=I1.knownX ha rfl g1;have w:yW F1 (upd F1 l (.frz o (VN X.prog X.w l xs))):=fun b u q=>by rw[yA (yZ q fa)];exact q
  have S2:Sat X.K B Γ Ω4 (upd F1 l (.frz o (VN X.prog X.w l xs))) σ (upd H1 l (.frz o (VN X.prog X.w l xs))):=by
   refine⟨S1.f0.trans w,fun b u q=>?_,fun b q=>?_,fun b u hb q=>?_,(Yc.mp S1.nd).2,fun q hq=>S1.od q (yc _ hq),fun q hq=>?_,S1.sl.mono w⟩
   ·by_cases hb:b=l
    ·subst hb;rw[yN] at q ⊢;exact q
    ·rw[yA hb] at q ⊢;exact S1.fh _ _ q
   ·by_cases hb:b=l
    ·subst hb;exact(S1.od (b,Jg X.prog X.w X.K b kvs) (by simp)).elim (fun z=>.inr (.inr z)) fun z=>.inr (.inl z)
    ·rw[yA hb] at q;exact S1.fr b q
   ·by_cases z:b=l
    ·subst z;rcases S1.od (b,Jg X.prog X.w X.K b kvs) (by simp) with y|y
     ·exact absurd y hb
     ·have y':B.H b=none:=y;rw[y'] at q;cases q
    ·rw[yA z];exact S1.kp b u hb q
   ·obtain⟨h1,o',h2,h3⟩:=S1.own q (yc _ hq);have ne:q.1≠l:=fun e=>nin (yx.mpr ⟨q,hq,e⟩);exact⟨by rw[yA ne];exact h1,o',by rw[yA ne];exact h2,fun F2 e=>h3 F2 (w.trans e)⟩
  have hk:es.toList.map (·.key)=(xs.map (·.2.1)).map Value.ref:=by rw[g4,Yx,Yx];rfl
  have dl:=Paired.length dp;refine⟨s1.heap.objs.size,[s1.heap.objs.size],_,_,_,rfl,I2.kept (t':=s1.toks) fun b o e=>yk _ e,XG (a:=l) (u:=VN X.prog X.w l xs) g2 g3 hk,⟨_,yu _ rfl,rfl,rfl⟩,fun b hb=>?_,_,Ω4,_,S2,f1.trans w,fun n F2 H2 e1 e2=>⟨fun d q=>?_,fun q=>⟨e2 _ _ (e1 _ _ yN),by rw[yf] at q ⊢;omega⟩⟩,r⟩
  ·have e:b=s1.heap.objs.size:=by simpa using hb
   subst e;exact I2.fpOk (yo _) (I2.hok.fresh (yo _))
  ·rw[yl] at q;obtain⟨p,hp,rfl⟩:=yX.mp q;have hn:n<kvs.length:=(yh.mp hp).1;refine⟨⟨e2 _ _ (e1 _ _ yN),by rw[yf];omega⟩,fun y H3 ⟨z,k,hk',ey⟩=>?_⟩;subst z ey;refine⟨F2,Pur.refl e2,?_⟩;rw[yl] at hk';obtain⟨q',hq',rfl⟩:=yX.mp hk';obtain⟨y1,y2⟩:=UT dp hp hq';exact(y2.1.mono (w.trans e1)) |> fun z=>by rw[y1];exact z
theorem wG (h:V3 X B e Γ Ω fun d Ω1=>∃ ds,d=.lst ds/\RL ds Ω1):IV3 X B tg e Γ Ω RL:=fun F σ H S pins s I=>
 bq JM pins s σ H _ I ((h F σ H S).mono fun v H1 ⟨d,Ω1,F1,S1,f1,i1,ds,e1,r⟩=>by
  subst e1;obtain⟨l,xs,rfl,s1,j1⟩:=JK i1;refine⟨l,rfl,⟨xs,S1.fh.seq s1⟩,ds,Ω1,F1,S1,f1,fun n F2 H2 e1 e2=>⟨fun d w=>?_,fun w=>⟨xs,(e1.trans e2).seq s1,by rw[j1.len];exact w⟩⟩,r⟩;obtain⟨x,hx,ix⟩:=j1.get w;refine⟨⟨xs,x,(e1.trans e2).seq s1,hx⟩,fun y H3 ⟨z,w'⟩=>?_⟩;subst z;have:=w' xs ((e1.trans e2).seq s1);rw[hx] at this;cases this;exact⟨F2,Pur.refl e2,ix.mono e1⟩)
theorem ly {iter elt:Expr}{ifs:List Expr}{sc SX:Scope}{N XN:List Str}{nt:Nat}{caps:List Nat}{pos:Pos}{R:D->Om->Prop}(S:CompOk SX sc XN N nt caps)
  (h:IV3 X B tg iter Γ Ω fun ds Ω1=>∃ pre:Nat->List D,(∀ i,i<=ds.length->(pre i).length<sizeLine)/\pre 0=[]/\b9 X sc N tg elt ifs (xv nt caps Γ) ds pre/\R (.lst (pre ds.length)) Ω1)
  (hc:X.calm=true:=by rfl) (hX:X.env.scope=SX:=by rfl) (hN:X.N=XN:=by rfl) (hs:∀ x,foldedSetIterable iter X.env x=pure x:=by intro _;rfl):V3 X B (.ListComp elt [⟨tg,iter,ifs,0⟩] sc pos) Γ Ω R:=fun F σ H S0 pins s I=>by
 refine bf S sV (fun c=>me) (fun c=>gY) (fun c=>JM) hc hX hN hs pins s σ H _ I ((h F σ H S0).mono fun Jt H1 ⟨ds,Ω1,F1,S1,f1,wk,pre,hz,h0,step,r⟩ D hD c=>
  ⟨fun i m σ' ys H'=>i+m=ds.length/\∃ F',Pur F1 H1 F' H'/\F' D=none/\H' D=some (.lst ys)/\IsL X.K F' (pre i) ys/\Sl X.K F' (xv nt caps Γ) σ',?_,?_⟩)
 ·exact⟨ds.length,by omega,F1,Pur.layOwn S1.fh hD,S1.fh.free hD,yN,by rw[h0];exact IsL.nil,Sl.cap S1.sl⟩
 ·rintro i m σ' ys H' ⟨hm,F',pu,fD,hH,il,sl'⟩;refine⟨hH,by rw[il.len];exact hz i (by omega),?_⟩;obtain⟨w1,w2⟩:=wk i F' H' pu.ff pu.fh;cases z:ds[i]? with
  |none=>
   have hl:ds.length<=i:=yt.mp z;have e:i=ds.length:=by omega
   subst e;have wf:yW F' (upd F' D (.lst ys)):=fun b u q=>by rw[yA (yZ q fD)];exact q
   have P2:Pur F1 H1 (upd F' D (.lst ys)) H':=⟨pu.ff.trans wf,fun b u q=>by
    by_cases hb:b=D
    ·subst hb;rw[yN] at q;cases q;exact hH
    ·rw[yA hb] at q;exact pu.fh _ _ q,pu.hh,fun b q=>by
    by_cases hb:b=D
    ·subst hb;exact .inr hD
    ·rw[yA hb] at q;exact pu.new b q⟩
   exact .inl ⟨w2 hl,.lst (pre ds.length),Ω1,_,S1.pur P2,f1.trans P2.ff,Is.lstI (.inl yN) (il.mono wf),r⟩
  |some d=>
   have hl:i<ds.length:=(yh.mp z).1;obtain⟨go,y⟩:=w1 d z;obtain⟨Γ1,⟨g,pg,gq⟩,sub,alt⟩:=step c i d z;refine .inr ⟨go,fun x H2 hy pins s u I2 r=>?_⟩;obtain⟨F2,p2,ix⟩:=y x H2 hy;have keepD:∀ {F3 H3 F4 H4:Hp},Pur F3 H3 F4 H4->F3 D=none->(∃ o,H3 D=some o)->F4 D=none:=fun {F3 H3 F4 H4} pp f3 h3=>by
    cases zz:F4 D with
    |none=>rfl
    |some o=>
     rcases pp.new D (by rw[zz];simp) with w|w
     ·exact absurd f3 w
     ·obtain⟨o',h3⟩:=h3;rw[h3] at w;cases w
   have fD2:=keepD p2 fD ⟨_,hH⟩;have hH2:=p2.hh _ _ hH;refine pg pins s σ' H2 x u _ I2 r (gq F2 σ' H2 x _ p2.fh ix (sl'.mono p2.ff) I2.len fun σ3 sl3 _=>?_);rcases alt with ⟨e,ht,he,hpre⟩|⟨ht,hpre⟩
   ·refine fun pins s I3=>ht pins s σ3 H2 _ I3 ⟨F2,p2.fh,sl3,fun H4 F4 p4=>fZ ?_⟩;refine fun pins s I4=>he pins s σ3 H4 _ I4 ⟨F4,p4.fh,sl3.mono p4.ff,fun v H5 F5 p5 iv=>?_⟩;have fD5:=keepD p5 (keepD p4 fD2 ⟨_,hH2⟩) ⟨_,p4.hh _ _ hH2⟩;have hH5:=p5.hh _ _ (p4.hh _ _ hH2);have P5:=((pu.trans p2).trans p4).trans p5;refine⟨ys,hH5,by rw[il.len];exact hz i (by omega),m - 1,by omega,by omega,F5,⟨P5.ff,fun b o w=>?_,fun b o w=>?_,P5.new⟩,fD5,yN,?_,(sl3.mono (p4.ff.trans p5.ff)).sub sub⟩
    ·rw[yA (yZ w fD5)];exact P5.fh _ _ w
    ·rw[yA (yZ w hD)];exact P5.hh _ _ w
    ·rw[hpre];exact(il.mono ((p2.ff.trans p4.ff).trans p5.ff)).append (IsL.cons iv IsL.nil)
   ·refine fun pins s I3=>ht pins s σ3 H2 _ I3 ⟨F2,p2.fh,sl3,fun H4 F4 p4=>fV ?_⟩;have P4:=(pu.trans p2).trans p4;refine⟨ys,m - 1,by omega,by omega,F4,P4,keepD p4 fD2 ⟨_,hH2⟩,p4.hh _ _ hH2,?_,(sl3.mono p4.ff).sub sub⟩;rw[hpre];exact il.mono (p2.ff.trans p4.ff)
end
def Ai:R2:=fun x y H Q=>∃ a o,y=.ref a/\Xd H a x o/\Q (.bl o.isSome) H
section
variable {X:Cx}{Γ:Ga}{a b:Expr}{ks:List Key}{ds:List D}{k:Key}
theorem rH (hu:X.A.units+64<cLine):OpR X (compareOp .In) Ai:=by
 rintro pins s σ H x y v u Q I rx ry ⟨a,o,rfl,g,q⟩;cases ry;exact Ag (kd hu) I g rx fun s3 I3=>⟨.bl o.isSome,H,I3,rfl,q⟩
theorem tj (hu:X.A.units+64<cLine)(ha:P3 X Γ a (vV k))(hb:P3 X Γ b (.dk ks ds)):C3 X Γ a .In b (vA ks ds k).isSome:=
 c_R (rH hu) ha hb fun x y H F Q fh i1 i2 q=>by
  obtain⟨l,xs,ob,rfl,hl,hz,il⟩:=mj i2;rw[V0 i1];refine⟨l,_,rfl,.inl ⟨_,k,.inr ⟨ob,fh _ _ hl⟩,rfl,rfl⟩,?_⟩;rw[Kl];rcases WH (k:=k) (ks:=ks) il with ⟨z1,z2⟩|⟨d1,v,z1,z2,z3⟩
  ·rw[z2];rw[z1] at q;exact q
  ·rw[z2];rw[z1] at q;exact q
end
section
variable {X:Cx}{B:Bs}{Γ:Ga}{Ω:Om}{o a:Expr}{es:List Expr}{d:D}{ds:List D}{kt:List (List Key)}{ks:List Key}{pos tpos p:Pos}{R:D->Om->Prop}
end
section
variable {D n m e f:Nat}{p q:Rat}
end
section
variable {D:Nat}{hs row:List Str}{kn:Kn}{kw:Kw}
end
section
variable {τ:Type}{om:τ->Om}{C0:τ->List D->Prop}{C:τ->List D->τ->D->Prop}
variable {X:Cx}{B:Bs}{Γ:Ga}{Ω Ω4:Om}{e:Expr}{es:List Expr}{ds:List D}{n k:Nat}{x:Str}{ps:List Str}{p pos:Pos}{R:D->Om->Prop}{t:τ}
end
section
variable {X:Cx}{B:Bs}{Γ:Ga}{Ω:Om}{a b:Expr}{d:D}{ds:List D}{pos p:Pos}{R:D->Om->Prop}
end
def spN {τ:Type}(K:W.Frag)(n:Nat)(om:τ->Om)(C0:τ->List D->Prop)(C:τ->List D->τ->D->Prop):Sp:=fun vs H Q _=>∃ t ds F,C0 t ds/\ds.length=n/\yW F H/\IsL K F ds vs/\((om t).map (·.1)).Nodup/\(∀ p∈om t,F p.1=none/\∃ o,H p.1=some o/\∀ F',yW F F'->p.2 F' o)/\
 ∀ t' d,C t ds t' d->∀ v H' F',yW F F'->yW F' H'->(∀ b o,b∉(om t).map (·.1)->H b=some o->H' b=some o)->(∀ b,F' b≠none->F b≠none∨H b=none∨b∈(om t).map (·.1))->((om t').map (·.1)).Nodup->(∀ p∈om t',(p.1∈(om t).map (·.1)∨H p.1=none)/\F' p.1=none/\∃ o,H' p.1=some o/\∀ F2,yW F' F2->p.2 F2 o)->Is K F' d v->Q v H'
theorem spN.len {τ:Type}{K:W.Frag}{n:Nat}{om:τ->Om}{C0:τ->List D->Prop}{C:τ->List D->τ->D->Prop}{vs:List V}{H:Hp}{Q:VK}{E:XK}(h:spN K n om C0 C vs H Q E):vs.length=n:=by
 obtain⟨t,ds,F,_,l,_,i,_⟩:=h;rw[i.len,l]
section
variable {τ:Type}{om:τ->Om}{C0:τ->List D->Prop}{C:τ->List D->τ->D->Prop}
abbrev EN (om:τ->Om)(C:τ->List D->τ->D->Prop)(t:τ)(ds:List D):E3:=⟨fun _ Ω=>∃ t' Ω5,C t ds t' .non/\Ω.Perm (om t'++Ω5),fun r Ω=>∃ t' Ω5,C t ds t' r/\Ω.Perm (om t'++Ω5),fun _ _=>False,fun _ _=>False⟩
theorem oG {P:Program}{w:World}{K:W.Frag}{mg:Str->Option Value}{base:Heap}{q:Str}{st:Stmt}{N:List Str}{k n:Nat}
  (body:∀ (f:Addr) (cdv:Value) (A:Around) (outer:List Env) (s:Shared) (H:Hp) (E:XK),Room k (A.deeper (envOfC q (yi st) s.heap.objs.size f cdv))->∀ (t:τ) (ds:List D),C0 t ds->∀ B:Bs,
   W3 (cx0 P w K mg base N q st f cdv A outer s H E) B (YT st) (QW N ds) (om t) (EN om C t ds))
  {f:Addr} {cdv:Value} {A:Around} {outer:List Env} {s:Shared} {H:Hp} {vs:List V} {Q:VK} {E:XK} (hr:Room k (A.deeper (envOfC q (yi st) s.heap.objs.size f cdv))) (h:spN K n om C0 C vs H Q E):WS (cx0 P w K mg base N q st f cdv A outer s H E) (YT st) {nx:=fun _ H'=>Q .non H',rt:=Q} (L2.start N vs) H:=by
 obtain⟨t,ds,F,hC,hl,fh,il,nd,own,q⟩:=h;have S0:Sat K (⟨(om t).map (fun p:Addr×Ow=>p.1),F,H⟩:Bs) (QW N ds) (om t) F (L2.start N vs) H:=
  ⟨yW.refl _,fh,fun _ q=>.inl q,fun _ _ _ e=>e,nd,fun p hp=>.inl (yx.mpr ⟨p,hp,rfl⟩),own,Sl.start il⟩
 have fin:∀ {t':τ} {r:D} {Ω' Ω5:Om} {F' H':Hp} {σ':L2.St} {Γ':Ga} {v:V},C t ds t' r->Ω'.Perm (om t'++Ω5)->Sat K (⟨(om t).map (fun p:Addr×Ow=>p.1),F,H⟩:Bs) Γ' Ω' F' σ' H'->Is K F' r v->Q v H':=by
  intro t' r Ω' Ω5 F' H' σ' Γ' v hc pm S' iv;have S2:=S'.perm pm.symm;have nd2:=S2.nd;rw[yr] at nd2;exact q t' r hc v H' F' S'.f0 S'.fh (fun b o hb e=>S'.kp b o hb e) (fun b hb=>S'.fr b hb) (qh.mp nd2).1 (fun p hp=>⟨S2.od p (Yw _ hp),S2.own p (Yw _ hp)⟩) iv
 refine qS (D:=E3.to K (⟨(om t).map (fun p:Addr×Ow=>p.1),F,H⟩:Bs) F (EN om C t ds)) (D':={nx:=fun _ H'=>Q .non H',rt:=Q}) ?_ ?_ ?_ ?_ (body f cdv A outer s H E hr t ds hC (⟨(om t).map (fun p:Addr×Ow=>p.1),F,H⟩:Bs) F _ H S0)
 ·rintro σ' H' ⟨Γ',Ω',F',S',f',t',Ω5,e1,e2⟩;exact fin e1 e2 S' (cm F')
 ·rintro v H' ⟨d',Ω',F',⟨σ',S'⟩,f',i',t',Ω5,e1,e2⟩;exact fin e1 e2 S' i'
 ·rintro σ' H' ⟨_,_,_,_,_,z⟩;exact z.elim
 ·rintro σ' H' ⟨_,_,_,_,_,z⟩;exact z.elim
theorem lO {P:Program}{w:World}{K:W.Frag}{mg:Str->Option Value}{base:Heap}{m q:Str}{st:Stmt}{N ps:List Str}{k n:Nat}{Cc:Addr}(d:YD K Cc m q st ps)(S:FnScope N ps (yi st))(hn:ps.length=n)
  (body:∀ (f:Addr) (cdv:Value) (A:Around) (outer:List Env) (s:Shared) (H:Hp) (E:XK),Room k (A.deeper (envOfC q (yi st) s.heap.objs.size f cdv))->∀ (t:τ) (ds:List D),C0 t ds->∀ B:Bs,
   W3 (cx0 P w K mg base N q st f cdv A outer s H E) B (YT st) (QW N ds) (om t) (EN om C t ds)):OkM P w K mg base CX0 (k+1) Cc m ps (spN K n om C0 C):=
 d.ok S (fun vs H Q E h=>(spN.len h).trans hn.symm) fun f cdv A outer s H vs Q E hr h=>⟨_,qL,oG body hr h⟩
variable {X:Cx}{B:Bs}{Γ:Ga}{Ω Ω4:Om}{e o:Expr}{es:List Expr}{ds gs:List D}{n k:Nat}{x m:Str}{ps fs:List Str}{Cc a:Addr}{p pos apos:Pos}{R:D->Om->Prop}{t:τ}
theorem Sat.back' {K:W.Frag}{F2 F':Hp}{σ:L2.St}{H2 H':Hp}{t':τ}(S2:Sat K B Γ (om t++Ω4) F2 σ H2)(g1:yW F2 F')(g2:yW F' H')(g3:∀ b o,b∉(om t).map (·.1)->H2 b=some o->H' b=some o)(g4:∀ b,F' b≠none->F2 b≠none∨H2 b=none∨b∈(om t).map (·.1))(g5:((om t').map (·.1)).Nodup)(g6:∀ p∈om t',(p.1∈(om t).map (·.1)∨H2 p.1=none)/\F' p.1=none/\∃ o,H' p.1=some o/\∀ F3,yW F' F3->p.2 F3 o):Sat K B Γ (om t'++Ω4) F' σ H':=by
 have nd2:=S2.nd;rw[yr] at nd2;have nds:=qh.mp nd2;have off:∀ p∈Ω4,p.1∉(om t).map (·.1):=fun p hp y=>nds.2.2 _ y _ (yx.mpr ⟨p,hp,rfl⟩) rfl;have odt:∀ b∈(om t).map (·.1),b∈B.M∨B.H b=none:=fun b hb=>by
  obtain⟨p,hp,rfl⟩:=yx.mp hb;exact S2.od p (Yw _ hp)
 refine⟨S2.f0.trans g1,g2,fun b hb=>?_,fun b o hb e=>?_,?_,fun p hp=>?_,fun p hp=>?_,S2.sl.mono g1⟩
 ·rcases g4 b hb with z|z|z
  ·exact S2.fr b z
  ·exact(S2.freeB z).elim (fun w=>.inr (.inl w)) fun w=>.inr (.inr w)
  ·exact(odt b z).elim (fun w=>.inr (.inr w)) fun w=>.inr (.inl w)
 ·refine g3 b o (fun z=>?_) (S2.kp b o hb e);rcases odt b z with z|z
  ·exact hb z
  ·rw[z] at e;cases e
 ·rw[yr,qh];refine⟨g5,nds.2.1,fun u hu v hv e=>?_⟩;obtain⟨p,hp,rfl⟩:=yx.mp hu;obtain⟨q,hq,rfl⟩:=yx.mp hv;rcases (g6 p hp).1 with z|z
  ·exact off q hq (e▸z)
  ·obtain⟨_,o2,h2,_⟩:=S2.own q (yS _ hq);rw[←e,z] at h2;cases h2
 ·rcases qb.mp hp with z|z
  ·rcases (g6 p z).1 with y|y
   ·exact odt _ y
   ·exact(S2.freeB y).elim .inr .inl
  ·exact S2.od p (yS _ z)
 ·rcases qb.mp hp with z|z
  ·exact(g6 p z).2
  ·obtain⟨h1,o2,h2,h3⟩:=S2.own p (yS _ z);refine⟨?_,o2,g3 _ _ (off p z) h2,fun F3 e3=>h3 F3 (g1.trans e3)⟩;cases zz:F' p.1 with
   |none=>rfl
   |some u=>
    rcases g4 p.1 (by rw[zz];simp) with y|y|y
    ·exact absurd h1 y
    ·rw[h2] at y;cases y
    ·exact absurd y (off p z)
theorem VJ (t:τ)(Ω4:Om){pl:Sem Bool}(ok:OkM X.prog X.w X.K X.mg X.base CX0 k Cc m ps (spN X.K n om C0 C))(c:Cls X.K Cc)(hr:Room k X.A)(ho:V3 X B o Γ Ω fun dq Ω0=>dq=.raw (.ref a)/\(a,jG X.K Cc fs gs)∈Ω0/\VL3 X B (e::es) Γ Ω0 fun ds Ω1=>Ω1.Perm (om t++Ω4)/\C0 t (.raw (.ref a)::ds)/\ds.length+1=n/\∀ t' d,C t (.raw (.ref a)::ds) t' d->R d (om t'++Ω4))(hf:m∉fs)
  (hst:starEach (e::es) X.env=(false,eval e X.env)::starEach es X.env:=by rfl) (hpl:(backTo pos (starEach es X.env)).any (·.1)=false:=by rfl)
  (ht:eval (.Call (.Attribute o m apos) (e::es) [] pos) X.env=(do
   let ov ←eval o X.env
   standAt apos.atName
   let (f,first) ←holding [ov] (getMethod ov m pl)
   callWith pos f first (backTo pos (starEach (e::es) X.env)) (backToKw pos (keywordEach [] X.env))):=by rfl):V3 X B (.Call (.Attribute o m apos) (e::es) [] pos) Γ Ω R:=fun F σ H S pins s I=>by
 obtain⟨f,fd,Fn,hM,hb⟩:=ok;refine Wc (pl:=pl) JM c hM Fn hr hb .nil kJ pU hst hpl ht pins s σ H _ I ((ho F σ H S).mono fun v H1 ⟨dq,Ω0,F1,S1,f1,i1,e1,hin,h1⟩=>?_);subst e1;cases isR i1;obtain⟨fa,o1,ha1,ho1⟩:=S1.own _ hin;obtain⟨dx,xs,rfl,hl,il⟩:=ho1 F1 (yW.refl _);refine⟨a,dx,_,rfl,ha1,Zh hf,(h1 F1 σ H1 S1).mono fun us H2 ⟨ds,Ω1,F2,S2',f2,i2,pm,h0,hn,r⟩=>?_⟩;rw[y9];have S2:=S2'.perm pm.symm;have nd2:=S2.nd;rw[yr] at nd2;exact⟨t,.raw (.ref a)::ds,F2,h0,by rw[yI];exact hn,S2.fh,IsL.cons (Vz F2) i2,(qh.mp nd2).1,fun p hp=>S2.own p (Yw _ hp),fun t' d hC v H' F' g1 g2 g3 g4 g5 g6 iv=>⟨d,om t'++Ω4,F',S2.back' g1 g2 g3 g4 g5 g6,f1.trans (f2.trans g1),iv,r t' d hC⟩⟩
end
section
variable {M:Nat}{hs row L:List Str}{kn:Kn}{br:List yL}{i j:Nat}{kw:Kw}
end
section
variable {X:Cx}{B:Bs}{Γ:Ga}{Ω:Om}{e tg:Expr}{RL:List D->Om->Prop}
end
theorem xo:∀ {a b:List Str},a.map D.str=b.map D.str->a=b
 |[],[],_=>rfl
 |[],_::_,h=>by simp at h
 |_::_,[],h=>by simp at h
 |x::a,y::b,h=>by
  rw[yy,yy,List.cons.injEq] at h;rw[D.str.inj h.1,xo h.2]
theorem U2 {a b:List Str}(h:qB a=qB b):a=b:=xo (D.tup.inj h)
theorem dW {r q:yL}(h:Qo r=Qo q):r=q:=by
 obtain⟨a,b,c⟩:=r;obtain⟨d,e,f⟩:=q;unfold Qo at h;simp only[D.tup.injEq,List.cons.injEq,D.str.injEq,and_true] at h;rw[h.1,U2 h.2.1,fj h.2.2]
theorem uh:∀ {a b:List yL},yG a=yG b->a=b
 |[],[],_=>rfl
 |[],_::_,h=>by simp[yG] at h
 |_::_,[],h=>by simp[yG] at h
 |x::a,y::b,h=>by
  unfold yG at h;rw[yy,yy,List.cons.injEq] at h;rw[dW h.1,uh (a:=a) (b:=b) h.2]
theorem pb {C:Addr}{st st':Str}{rs rs':List yL}(h:gD C st rs=gD C st' rs'):st=st'/\rs=rs':=by
 unfold gD gDs at h;simp only[D.obj.injEq,List.cons.injEq,D.str.injEq,D.lst.injEq,true_and] at h;exact⟨h.1,uh h.2.1⟩
theorem aG {h:Str}{r:yL}{rs:List yL}:zF h (r::rs)=(if r.1=h then r.2.2 else 0)+zF h rs:=by
 have go:∀ (rs:List yL) (a:Rat),rs.foldl (UX h) a=a+zF h rs:=by
  intro rs
  induction rs with
  |nil=>intro a;simp[zF];grind
  |cons r rs ih=>
   intro a;unfold zF;rw[YQ,YQ,ih,ih (UX h 0 r)];unfold UX;split <;> grind
 unfold zF;rw[YQ,go];unfold UX;split
 ·show 0+r.2.2+zF h rs=r.2.2+zF h rs;grind
 ·rfl
section
variable {rs:List yL}
end
section
variable {A B x y:Str}{p0 p1 p2 p3:Rat}
end
section
variable {κ α:Type}[DecidableEq κ]
end
section
variable {A B x y:Str}{p0 p1 p2 p3:Rat}
end
theorem gl {n c c':Nat}{E E':Nat->Nat->Rat}(hc:n<=c)(hc':n<=c')(h:∀ i j,i<n->j<n->E i j=E' i j)(g:∀ i,i<n->E i c=E' i c'):∀ k,k<=n->∀ i,i<n->EK E k i c=EK E' k i c'
 |0,_,i,hi=>g i hi
 |k+1,hk,i,hi=>by
  have ih:=gl hc hc' h g k (by omega);have cols:=Wa h k (by omega);rw[EK,EK];unfold zP;rw[yd (show ¬ c=k by omega),yd (show ¬ c=k by omega),yd (show ¬ c'=k by omega),yd (show ¬ c'=k by omega),ih k (by omega),cols k k (by omega) (by omega),ih i hi,cols i k hi (by omega)]
theorem rk {L:List Str}{ss:List yL}(hp:Piv L.length (wM2 L ss)){i j:Nat}(hi:i<L.length)(hj:j<L.length):chF L ss i j=jl L.length (fun k=>wM2 L ss i k*chF L ss k j)+idM L i j:=by
 have e:∀ k,k<L.length->chF L ss k j=EK (wM L.length (wM2 L ss) fun r _=>idM L r j) L.length k L.length:=fun k hk=>by
  unfold chF;refine gl (qV _ _) (yo _) (fun a b ha hb=>by rw[Kp a b ha hb,Kp a b ha hb]) (fun a ha=>?_) _ (yo _) k hk;unfold wM;rw[yd (by omega),yd (by omega),QX]
 have s:=Slv.all (X7 (B:=fun r _=>idM L r j) hp) i hi;dsimp only at s;rw[e i hi,s];congr 1
 ·refine zp fun k hk=>?_;rw[Kp i k hi hk,e k hk]
 ·unfold wM;rw[yd (by omega)]
section
variable {M:Nat}{hs L:List Str}{br:List yL}{w:Str}
end
def qH (l:List Rat):Rat:=l.foldr (· + ·) 0
def qt (l:List Rat):Rat:=l.foldr (· * ·) 1
theorem Kq {l l':List Rat}(h:l.Perm l'):qH l=qH l':=by
 induction h with
 |nil=>rfl
 |cons x _ ih=>simp only[qH,List.foldr_cons] at *;rw[ih]
 |swap x y l=>simp only[qH,List.foldr_cons];grind
 |trans _ _ a b=>exact a.trans b
theorem kN {l l':List Rat}(h:l.Perm l'):qt l=qt l':=by
 induction h with
 |nil=>rfl
 |cons x _ ih=>simp only[qt,List.foldr_cons] at *;rw[ih]
 |swap x y l=>simp only[qt,List.foldr_cons];grind
 |trans _ _ a b=>exact a.trans b
theorem vK:∀ {l:List Rat},(∀ x∈l,0<=x)->0<=qt l
 |[],_=>by show(0:Rat)<=1;decide
 |x::l,h=>by
  have:=vK (l:=l) fun y hy=>h y (yc _ hy);exact QC (h x (by simp)) this
theorem Kv:∀ {l:List Rat},(∀ x∈l,0<=x/\x<=1)->qt l<=1
 |[],_=>by show(1:Rat)<=1;decide
 |x::l,h=>by
  have a:=Kv (l:=l) fun y hy=>h y (yc _ hy);have b:=vK (l:=l) fun y hy=>(h y (yc _ hy)).1;have c:=h x (by simp);show x*qt l<=1;have:x*qt l<=1*qt l:=Rat.mul_le_mul_of_nonneg_right c.2 b;grind
theorem xa:∀ {l:List Rat},(∀ x∈l,1<x)->(l.length:Rat)<=qH l
 |[],_=>by show((0:Nat):Rat)<=0;decide
 |x::l,h=>by
  have a:=xa (l:=l) fun y hy=>h y (yc _ hy);have c:=h x (by simp);show((l.length+1:Nat):Rat)<=x+qH l;have e:((l.length+1:Nat):Rat)=(l.length:Rat)+1:=by push_cast;rfl
  rw[e];grind
theorem aX:∀ (n:Nat) (l:List Rat),l.length=n->(∀ x∈l,0<=x)->qH l<=(n:Rat)->qt l<=1
 |0,l,hl,_,_=>by
  rw[List.length_eq_zero_iff.mp hl];show(1:Rat)<=1;decide
 |n+1,l,hl,h0,hs=>by
  by_cases hx:∃ x∈l,1<x
  ·obtain⟨x,mx,x1⟩:=hx;have p1:=List.perm_cons_erase mx;have l1:(l.erase x).length=n:=by rw[List.length_erase_of_mem mx,hl];rfl
   have s1:qH l=x+qH (l.erase x):=Kq p1;have e:((n+1:Nat):Rat)=(n:Rat)+1:=by push_cast;rfl
   rw[e] at hs;by_cases hy:∃ y∈l.erase x,y<=1
   ·obtain⟨y,my,y1⟩:=hy;have p2:=List.perm_cons_erase my;have s2:qH (l.erase x)=y+qH ((l.erase x).erase y):=Kq p2;have q1:qt l=x*qt (l.erase x):=kN p1;have q2:qt (l.erase x)=y*qt ((l.erase x).erase y):=kN p2;have ln:((l.erase x).erase y).length+1=n:=by
     have:0<(l.erase x).length:=List.length_pos_of_mem my;rw[List.length_erase_of_mem my,l1];omega
    have y0:0<=y:=h0 y (List.mem_of_mem_erase my);have x0:0<=x:=by grind
    have ih:=aX n (x*y::(l.erase x).erase y) (by rw[yI,ln]) (fun z hz=>by
     rcases yP.mp hz with w|w
     ·subst w;exact QC x0 y0
     ·exact h0 z (List.mem_of_mem_erase (List.mem_of_mem_erase w))) (by
     show x*y+qH ((l.erase x).erase y)<=(n:Rat)
     have k:0<=(x - 1)*(1 - y):=QC (by grind) (by grind);grind)
    have:qt (x*y::(l.erase x).erase y)=x*y*qt ((l.erase x).erase y):=rfl;rw[q1,q2];grind
   ·have g:=xa (l:=l.erase x) fun y my=>by
     have:¬ y<=1:=fun z=>hy ⟨y,my,z⟩;grind
    rw[l1] at g;grind
  ·exact Kv fun x mx=>⟨h0 x mx,by
    have:¬ 1<x:=fun z=>hx ⟨x,mx,z⟩;grind⟩
def pwL (x:Rat)(n:Nat):Rat:=qt (List.replicate n x)
theorem uF {x:Rat}{n:Nat}:pwL x (n+1)=x*pwL x n:=rfl
theorem ba {x y:Rat}:∀ {n:Nat},pwL (x*y) n=pwL x n*pwL y n
 |0=>by show(1:Rat)=1*1;grind
 |n+1=>by rw[uF,uF,uF,ba (n:=n)];grind
theorem ot {x:Rat}{n:Nat}(h:0<=x):0<=pwL x n:=vK fun y hy=>by rw[List.eq_of_mem_replicate hy];exact h
theorem uG:∀ {l l':List Rat},qt (l++l')=qt l*qt l'
 |[],l'=>by show qt l'=1*qt l';grind
 |x::l,l'=>by
  have:=uG (l:=l) (l':=l');show x*qt (l++l')=x*qt l*qt l';rw[this];grind
theorem US:∀ {l l':List Rat},qH (l++l')=qH l+qH l'
 |[],l'=>by show qH l'=0+qH l';grind
 |x::l,l'=>by
  have:=US (l:=l) (l':=l');show x+qH (l++l')=x+qH l+qH l';rw[this];grind
theorem UZ {x:Rat}:∀ {n:Nat},qH (List.replicate n x)=(n:Rat)*x
 |0=>by show(0:Rat)=((0:Nat):Rat)*x;grind
 |n+1=>by
  have:=UZ (x:=x) (n:=n);show x+qH (List.replicate n x)=((n+1:Nat):Rat)*x;rw[this];push_cast;grind
abbrev CQ:=List (Nat×Rat)
def lp (cs:CQ):Nat:=(cs.map (·.1)).sum
def mE (cs:CQ):Rat:=qH (cs.map (·.2))
def Kt (cs:CQ):Rat:=qt (cs.map fun p=>pwL p.2 p.1)
def ga (N:Nat)(cs:CQ):Rat:=qt (cs.map fun p=>pwL ((p.1:Rat) / (N:Rat)) p.1)
def X6 (N:Nat)(cs:CQ):List Rat:=cs.flatMap fun p=>List.replicate p.1 (p.2*((N:Rat) / (p.1:Rat)))
theorem xf {N:Nat}:∀ {cs:CQ},(X6 N cs).length=lp cs
 |[]=>rfl
 |p::cs=>by
  have:=xf (N:=N) (cs:=cs);show(List.replicate p.1 _++X6 N cs).length=p.1+lp cs;rw[Yh,qy,this]
theorem wJ {n:Nat}(h:0<n):(n:Rat)≠0:=by
 intro e;have:(n:Rat)=((0:Nat):Rat):=by rw[e];rfl
 rw[Rat.natCast_inj] at this;omega
theorem uj {a b:Nat}:(0:Rat)<=(a:Rat) / (b:Rat):=by
 have h1:(0:Rat)<=(a:Rat):=by exact_mod_cast qU a
 have h2:(0:Rat)<=(b:Rat):=by exact_mod_cast qU b
 rw[Qh];refine QC h1 ?_;rcases Nat.eq_zero_or_pos b with e|e
 ·subst e;rw[show((0:Nat):Rat)=0 from rfl,Rat.inv_zero];exact Rat.le_refl
 ·exact Yu (Rat.inv_pos.mpr (by exact_mod_cast e))
theorem WW {N:Nat}:∀ {cs:CQ},(∀ p∈cs,0<p.1)->qH (X6 N cs)=(N:Rat)*mE cs
 |[],_=>by show(0:Rat)=(N:Rat)*0;grind
 |p::cs,h=>by
  have a:=WW (N:=N) (cs:=cs) fun q hq=>h q (yc _ hq);have b:=wJ (h p (by simp));show qH (List.replicate p.1 (p.2*((N:Rat) / (p.1:Rat)))++X6 N cs)=(N:Rat)*(p.2+mE cs);rw[US,UZ,a];grind
theorem UC {N:Nat}(hN:0<N):∀ {cs:CQ},(∀ p∈cs,0<p.1)->Kt cs=qt (X6 N cs)*ga N cs
 |[],_=>by show(1:Rat)=1*1;grind
 |p::cs,h=>by
  have a:=UC hN (cs:=cs) fun q hq=>h q (yc _ hq);have b:=wJ (h p (by simp));have c:=wJ hN;show pwL p.2 p.1*Kt cs=qt (List.replicate p.1 (p.2*((N:Rat) / (p.1:Rat)))++X6 N cs)*(pwL ((p.1:Rat) / (N:Rat)) p.1*ga N cs);rw[uG,a];have e:p.2=p.2*((N:Rat) / (p.1:Rat))*((p.1:Rat) / (N:Rat)):=by grind
  have f:pwL p.2 p.1=qt (List.replicate p.1 (p.2*((N:Rat) / (p.1:Rat))))*pwL ((p.1:Rat) / (N:Rat)) p.1:=by
   conv=>lhs;rw[e]
   exact ba
  rw[f];grind
theorem sJ {cs:CQ}{N:Nat}(hN:0<N)(hc:lp cs=N)(h:∀ p∈cs,0<p.1/\0<=p.2)(hq:mE cs<=1):Kt cs<=ga N cs:=by
 have n0:(0:Rat)<=(N:Rat):=by exact_mod_cast qU N
 have m:=aX N (X6 N cs) (by rw[xf,hc]) (fun x hx=>by
  obtain⟨p,hp,hx⟩:=List.mem_flatMap.mp hx;rw[List.eq_of_mem_replicate hx];exact QC (h p hp).2 uj) (by
  rw[WW fun p hp=>(h p hp).1];have:=Rat.mul_le_mul_of_nonneg_left hq n0;grind)
 rw[UC hN fun p hp=>(h p hp).1];have o:0<=ga N cs:=vK fun x hx=>by
  obtain⟨p,hp,rfl⟩:=yx.mp hx;exact ot uj
 have:=Rat.mul_le_mul_of_nonneg_right m o;grind
structure One (h:Str)(rs:List yL)(s:Nat):Prop where
 n1:1<=rs.length
 n5:rs.length<=5
 r:∀ r∈rs,r.1=h/\∃ w,r.2.1=[w]/\w≠h
 nd:(rs.map b0).Nodup
 q:∀ r∈rs,0<r.2.2/\Sz s r.2.2
 s1:1<=s
 s2:s<=100
section
variable {h:Str}{rs:List yL}{s:Nat}
theorem One.b0 (o:One h rs s){r:yL}(hr:r∈rs):r.2.1=[b0 r]/\b0 r≠h:=by
 obtain⟨_,w,e,n⟩:=o.r r hr;have:L3.b0 r=w:=by unfold L3.b0;rw[e];rfl
 rw[this];exact⟨e,n⟩
theorem WZ:∀ {rs:List yL},(∀ r∈rs,r.1=h)->rs.foldl QG [h]=[h]
 |[],_=>rfl
 |r::rs,hr=>by
  rw[YQ,show QG [h] r=[h] by unfold QG;rw[ye (by rw[hr r (by simp)];simp)]];exact WZ fun q hq=>hr q (yc _ hq)
theorem j6 (o:One h rs s):y8 rs=[h]:=by
 have n:=o.n1;have ok:∀ r∈rs,r.1=h:=fun r hr=>(o.r r hr).1
 clear o
 cases rs with
 |nil=>simp at n
 |cons r rs=>
  unfold y8;rw[YQ,show QG [] r=[h] by unfold QG;rw[yd (by simp),ok r (by simp)];rfl];exact WZ fun q hq=>ok q (yc _ hq)
theorem QL (o:One h rs s):yY rs=[h]:=by
 unfold yY Jk;rw[j6 o];have n:=o.n1;obtain⟨r,hr⟩:∃ r,r∈rs:=by
  cases rs with
  |nil=>simp at n
  |cons r rs=>exact⟨r,by simp⟩
 have:Live [h] rs h:=by
  have e:=o.r r hr;obtain⟨e1,w,e2,e3⟩:=e;refine e1▸Live.mk r hr fun x hx hx'=>?_;rw[e2] at hx;rw[yD] at hx hx';exact absurd (hx▸hx') (e1▸e3)
 simp[this]
theorem Ux (o:One h rs s):JL [h] [h] rs=rs:=by
 unfold JL;refine List.filter_eq_self.mpr fun r hr=>?_;obtain⟨e1,e2⟩:=o.b0 hr;rw[e1];unfold Q9;simp
theorem xA (o:One h rs s){r:yL}(hr:r∈rs):jj [h] r=false:=by
 obtain⟨e1,e2⟩:=o.b0 hr;unfold jj;rw[e1];simpa using e2
theorem uC (o:One h rs s):Je rs=rs:=by
 unfold Je;rw[QL o,j6 o,Ux o];exact List.filter_eq_self.mpr fun r hr=>by rw[xA o hr];rfl
theorem X8 (o:One h rs s):Wq rs=[]:=by
 unfold Wq;rw[QL o,j6 o,Ux o];exact List.filter_eq_nil_iff.mpr fun r hr=>by rw[xA o hr];decide
theorem bM:Piv 1 (wM2 [h] []):=fun k hk=>by
 have:k=0:=by omega
 subst this;show(0:Rat)<1;decide
theorem iD (o:One h rs s):zm rs 0 0=1:=by
 unfold zm;rw[QL o,X8 o];have:=rk (L:=[h]) (ss:=[]) bM (i:=0) (j:=0) Nat.zero_lt_one Nat.zero_lt_one;rw[this];have e:jl [h].length (fun k=>wM2 [h] [] 0 k*chF [h] [] k 0)=0:=by
  show 0+(0:Rat)*chF [h] [] 0 0=0;grind
 rw[e];show(0:Rat)+(if _ then 1 else 0)=1;rw[ye rfl];grind
theorem UH (o:One h rs s)(w:Str):SumOk rs [w] s where
 rl:=Ye o.n5 (by decide)
 body:=fun r hr=>by rw[(o.b0 hr).1];exact YI rfl
 wl:=YI rfl
 nd:=by rw[QL o];simp
 ll:=by rw[QL o];exact YI rfl
 keys:=by rw[X8 o];exact List.nodup_nil
 sz:=fun r hr=>⟨Yu (o.q r hr).1,(o.q r hr).2⟩
 s1:=o.s1
 sk:=by
  rw[QL o];have:=o.s2;show 4*s+3<=67108864;omega
 piv:=by rw[QL o,X8 o];exact bM
 hd:=fun r hr=>by
  rw[uC o] at hr;rw[QL o,(o.r r hr).1];simp
 one:=fun r hr=>by
  rw[uC o] at hr;exact⟨_,(o.b0 hr).1⟩
 bits:=fun k hk=>by
  have hk':k=0:=by
   have:(zh [w].length).length=1:=rfl;omega
  subst hk';rw[QL o,uC o];have a:=o.n5;have b:=o.s2;have c:rs.length*(s+1+4)<=5*105:=qK a (by omega);have e:brB rs.length s (uK rs.length s (sK s [h].length) 0)=rs.length*(s+1+4)+1:=rfl;have e2:sK s [h].length=4*s+3:=rfl;rw[e,e2];have m:max (4*s+3) (rs.length*(s+1+4)+1)<=526:=by omega
  refine⟨by omega,?_⟩;unfold cJ;have f:rs.length*(4*max (4*s+3) (rs.length*(s+1+4)+1)+2)<=5*(4*526+2):=qK a (by omega);have:big=67108864:=rfl;omega
theorem V6 {wo:Str->Rat}:∀ {rs:List yL} {e:En},(∀ r∈rs,wo (L3.b0 r)=0)->rs.foldl (Qn wo) e=e
 |[],_,_=>rfl
 |r::rs,e,hr=>by
  rw[YQ,show Qn wo e r=e by unfold Qn;rw[ye (hr r (by simp))]];exact V6 fun q hq=>hr q (yc _ hq)
theorem wT {w x:Str}{kn:Kn}(hx:x≠h):woS [h] [w] kn 0 1 x=if x=w then 1 else 0:=by
 unfold woS;rw[yd (by simpa using hx)];by_cases e:x=w
 ·rw[ye ⟨rfl,by rw[e];rfl⟩,ye e]
 ·rw[yd (fun z=>e (by have:=z.2;simpa using this.symm)),yd e]
theorem fe (o:One h rs s){r:yL}(hr:r∈rs){kn:Kn}:kL (woS [h] [L3.b0 r] kn 0 1) rs=([h],[r.2.2]):=by
 obtain⟨l1,l2,e⟩:=List.append_of_mem hr;have nd:=o.nd;have ok:=fun q hq=>(o.b0 (r:=q) hq).2;have oh:=(o.r r hr).1;have oq:=(o.q r hr).1
 clear o hr
 subst e;rw[yr,yy,qh] at nd;unfold kL;rw[qg,YQ,V6 (rs:=l1) fun q hq=>?_,V6 (rs:=l2) fun q hq=>?_]
 ·unfold Qn;rw[wT (ok r (by simp)),ye rfl,yd (by decide),oh];show([h],[0+r.2.2*1])=([h],[r.2.2])
  congr 2;grind
 ·rw[wT (ok q (by simp[hq])),yd fun z=>?_];have:=(Yc.mp nd.2.1).1;exact this (yx.mpr ⟨q,hq,z⟩)
 ·rw[wT (ok q (by simp[hq])),yd fun z=>?_];exact nd.2.2 _ (yx.mpr ⟨q,hq,rfl⟩) _ (by simp) z
theorem ra (o:One h rs s){r:yL}(hr:r∈rs):VG rs [L3.b0 r]=([(h,0,1)],[r.2.2]):=by
 unfold VG se;rw[QL o,uC o,j6 o];have e:zh [L3.b0 r].length=[(0,1)]:=rfl;rw[e];show Jf [h] [L3.b0 r] [h] rs (zm rs) ([],[]) (0,1)=_;unfold Jf;rw[fe o hr];show QF [h] (zm rs) ([h],[r.2.2]) 0 1 ([],[]) h=_;have t:Kd [h] (zm rs) ([h],[r.2.2]) h=r.2.2:=by
  show(0:Rat)+zm rs ([h].idxOf h) ([h].idxOf h)*(vA [h] [r.2.2] h).getD 0=r.2.2;have i:[h].idxOf h=0:=by simp
  have v:vA [h] [r.2.2] h=some r.2.2:=by unfold vA;simp
  rw[i,iD o,v];show(0:Rat)+1*r.2.2=r.2.2;grind
 unfold QF;have:=(o.q r hr).1;rw[t,yd (by grind)];rfl
theorem VZ (o:One h rs s){r:yL}(hr:r∈rs):Zq (VG rs [L3.b0 r]) h 0 1=r.2.2:=by
 rw[ra o hr];unfold Zq vA;simp
end
theorem bD {X:Cx}{B:Bs}{Γ:Ga}{Ω Ω' Ω5:Om}{E:E3}{sts:List Stmt}(pm:Ω.Perm (Ω'++Ω5))(h:W3 X B sts Γ Ω' E):W3 X B sts Γ Ω E:=fun F σ H S=>by
 have S1:=S.perm pm.symm;have nd:=S1.nd;rw[yr] at nd;exact h F σ H ⟨S1.f0,S1.fh,S1.fr,S1.kp,(qh.mp nd).1,fun q hq=>S1.od q (Yw _ hq),fun q hq=>S1.own q (Yw _ hq),S1.sl⟩
structure ClsP (K:W.Frag)(C:Addr):Prop where
 c:Cls K C
 n_sums:qM K C "sums"
 n_known_rules:qM K C "known_rules"
 n_known_beyonds:qM K C "known_beyonds"
 n_spans:qM K C "spans"
 n_handed:qM K C "handed"
theorem lM {K:W.Frag}{C:Addr}(pg:W.plainGet K C Str.empty=true)(hd:W.hasDictIn K C=true)(po:W.plainOver K C=true)(sa:W.findIn K (.ref C) "__setattr__" = some (some (.builtin "object.__setattr__")))
  (n1:W.findIn K (.ref C) "sums" = some none) (n2:W.findIn K (.ref C) "known_rules" = some none) (n3:W.findIn K (.ref C) "known_beyonds" = some none) (n4:W.findIn K (.ref C) "spans" = some none) (n5:W.findIn K (.ref C) "handed" = some none):ClsP K C:=⟨⟨pg,hd,po,sa⟩,n1,n2,n3,n4,n5⟩
def pF:List Str:=["sums", "known_rules", "known_beyonds", "spans", "handed"]
theorem Z3:("beyond" : Str)∉pF:=by decide +kernel
theorem uR:("uses" : Str)∉pF:=by decide +kernel
theorem vZ:("hand" : Str)∉pF:=by decide +kernel
theorem Zt:("hand_to_heads" : Str)∉pF:=by decide +kernel
theorem Zp:("hand_to_bodies" : Str)∉pF:=by decide +kernel
theorem J3:("hand_within_bodies" : Str)∉pF:=by decide +kernel
def k01:List K2:=[.inl (.inl 0),.inl (.inl 1)]
def kB1 (x:Str):List K2:=[.inl (.inr x)]
noncomputable def um (Cs Cg:Addr)(h:Str)(rs:List yL)(w:Str):D:=.obj Cs sF (sDs Cg h rs [w])
structure PSt where
 a:Addr
 kb:Addr
 hd:Addr
 b:Addr
 c:Option Addr
 g:Bool
 kn:Kn
 h:Str
 rs:List yL
 w:Str
noncomputable def pDs (Cs Cg:Addr)(t:PSt):List D:=[um Cs Cg t.h t.rs t.w,.lst (yG t.rs),.raw (.ref t.kb),.lst [JV (0,1)],.raw (.ref t.hd)]
def omB (P:Program)(w:World)(K:W.Frag)(t:PSt):Om:=match t.g,t.c with
 |false,_=>[]
 |true,none=>[(t.b,Jg P w K t.b [])]
 |true,some c=>[(t.b,Jg P w K t.b [(kB1 t.h,.raw (.ref c))]),(c,Q3 K [ju (1,1)])]
noncomputable def omP (P:Program)(w:World)(K:W.Frag)(Cp Cs Cg:Addr)(t:PSt):Om:=(t.a,jG K Cp pF (pDs Cs Cg t))::(t.kb,oDt K (knK t.kn) (knV t.kn))::(t.hd,Jg P w K t.hd [(k01,.raw (.ref t.b))])::omB P w K t
def kn1 (h:Str):Kn:=([(h,0,1)],[1])
def iK (Cp:Addr):List D->D->Prop:=fun ds d=>∃ (sm rl sp hd:D) (kn:Kn) (h:Str) (i j:Nat),ds=[.obj Cp pF [sm,rl,knD kn,sp,hd],.str h,.int (i:Int),.int (j:Int)]/\d=sh (Zq kn h i j)
def io:PSt->List D->Prop:=fun t ds=>t.g=true/\(∃ s,One t.h t.rs s)/\∃ (x:Str) (p q:Rat),ds=[.raw (.ref t.a),qB [x],.int 0,.int 1,ju (p,q)]/\(x=t.h->t.c=none/\p=1/\q=1)
def lC:PSt->List D->PSt->D->Prop:=fun t ds t' d=>d=.non/\∃ (x:Str) (p q:Rat),ds=[.raw (.ref t.a),qB [x],.int 0,.int 1,ju (p,q)]/\(x=t.h->∃ c,t'={t with c:=some c})/\(x≠t.h->t'=t)
def dv:PSt->List D->Prop:=fun t ds=>t.g=true/\(∃ s,One t.h t.rs s)/\(∃ c,t.c=some c)/\t.kn=([],[])/\ds=[.raw (.ref t.a),.int 0,.int 1]
def iB:PSt->List D->PSt->D->Prop:=fun t _ t' d=>d=.non/\t'={t with kn:=kn1 t.h}
def X1:PSt->List D->Prop:=fun t ds=>t.g=true/\(∃ s,One t.h t.rs s)/\(∃ c,t.c=some c)/\t.kn=kn1 t.h/\ds=[.raw (.ref t.a),.int 0,.int 1]
def cy:PSt->List D->PSt->D->Prop:=fun t _ t' d=>d=.non/\t'=t
def Xn:PSt->List D->Prop:=fun t ds=>t.g=true/\(∃ c,t.c=some c)/\ds=[.raw (.ref t.a),.int 0,.int 1]
def dN:PSt->List D->PSt->D->Prop:=fun t _ t' d=>d=.non/\t'={t with g:=false}
noncomputable def ig (Cs Cg:Addr)(h:Str)(rs:List yL)(w:Str)(hd:Addr):List D:=[um Cs Cg h rs w,.lst (yG rs),knD (kn1 h),.lst [JV (0,1)],.raw (.ref hd)]
noncomputable def fi (Cg:Addr):List D->Prop:=fun ds=>∃ (h:Str) (rs:List yL) (s:Nat) (r:yL),ds=[gD Cg h rs,qB [b0 r]]/\One h rs s/\r∈rs
noncomputable def mX (Cs Cg:Addr):List D->List Str×List D->Prop:=fun ds r=>∀ (h:Str) (rs:List yL) (w:Str),ds=[gD Cg h rs,qB [w]]->∃ hd,r=(pF,ig Cs Cg h rs w hd)
noncomputable def rB (Cp Cs Cg:Addr):List D->D->Prop:=fun ds d=>∃ (h:Str) (rs:List yL) (s:Nat) (r:yL) (hd:Addr) (j:Nat) (q:yL),ds=[.obj Cp pF (ig Cs Cg h rs (b0 r) hd),.int (j:Int)]/\One h rs s/\r∈rs/\rs[j]?=some q/\d=sh (if b0 q=b0 r then 1 else 0)
theorem hI {h:Str}{rs:List yL}{s:Nat}(o:One h rs s){q r:yL}(hq:q∈rs)(hr:r∈rs)(e:b0 q=b0 r):q=r:=by
 obtain⟨i,hi⟩:=List.mem_iff_getElem?.mp hq;obtain⟨j,hj⟩:=List.mem_iff_getElem?.mp hr;have a:(rs.map b0)[i]?=some (b0 q):=by rw[yl,hi];rfl
 have b:(rs.map b0)[j]?=some (b0 r):=by rw[yl,hj];rfl
 have:=(List.getElem?_inj (yh.mp a).1 o.nd).mp (show(rs.map b0)[i]?=(rs.map b0)[j]? by rw[a,b,e]);subst this;rw[hi] at hj;exact Option.some.inj hj
theorem rp {h:Str}{rs:List yL}{s:Nat}(o:One h rs s){q r:yL}(hq:q∈rs)(hr:r∈rs):q.2.2*(if b0 q=b0 r then 1 else 0) / r.2.2=if b0 q=b0 r then 1 else 0:=by
 have h0:=(o.q r hr).1;by_cases e:b0 q=b0 r
 ·rw[ye e,hI o hq hr e];have:r.2.2≠0:=by grind
  grind
 ·rw[yd e];rw[Qh];grind
theorem iX {p q:Rat}:∀ e∈[sh p,sh q],kin e (sh 0)=true/\dep e<=60:=fun e he=>by
 rcases yP.mp he with z|z
 ·rw[z];exact⟨j5,j4⟩
 ·rw[yD.mp z];exact⟨j5,j4⟩
theorem wK {k:List K2}{d:D}:atD [(k,d)] k=some d:=by simp[atD]
theorem ZA {κ α:Type}[DecidableEq κ]{k:κ}{x:α}:vA [k] [x] k=some x:=by unfold vA;simp
theorem wy {h:Str}{k:Nat}{d:D}(q:(([h]:List Str).map qp |>.map vV)[k]?=some d):k=0/\d=.str h:=by
 cases k with
 |zero=>exact⟨rfl,(Option.some.inj q).symm⟩
 |succ k=>simp at q
theorem iq:uo [(1,1)]=1:=by show(0:Rat)+1*1=1;grind
theorem bS:nL [.lst [ju (1,1)]] (sh 1):=⟨[(1,1)],1,rfl,by rw[iq],fun p hp=>by
 rw[yD.mp hp];exact⟨⟨by decide,VA⟩,by decide,VA⟩,by decide,by decide⟩
theorem cr {α:Type}{a b c d e:α}:[a,b,c,d,e].Perm ([c,d,e,b,a]:List α):=by
 refine(qv (l₁:=[a,b]) (a:=c) (l₂:=[d,e])).trans (List.Perm.cons _ ?_);refine(qv (l₁:=[a,b]) (a:=d) (l₂:=[e])).trans (List.Perm.cons _ ?_);refine(qv (l₁:=[a,b]) (a:=e) (l₂:=[])).trans (List.Perm.cons _ ?_);exact List.Perm.swap ..
theorem og {α:Type}{a b c d:α}:[c,d,a,b].Perm ([a,b,c,d]:List α):=List.perm_append_comm (l₁:=[c,d]) (l₂:=[a,b])
theorem mN {h x:Str}{rs:List yL}{s:Nat}(o:One h rs s){b1:Bool}{F:Nat->D}(hk:(b1&&(decide (1<(([x].map D.str).length:Int))||(vA ((yY rs).map qp) (tb (yY rs).length F) (qp x)).isSome))=true):x=h:=by
 rw[Yr,Bool.or_eq_true] at hk;rcases hk.2 with z|z
 ·exact absurd (show(1:Int)<((1:Nat):Int) from of_decide_eq_true z) (by decide)
 ·rw[QL o] at z;unfold vA at z;by_cases e:x=h
  ·exact e
  ·simp[tb,qp,Ne.symm e] at z
theorem eQ {x:Str}{rs:List yL}{s:Nat}(o:One x rs s){F:Nat->D}:¬ (((!inD (sh 0) [sh 1,sh 1])&&(decide (1<(([x].map D.str).length:Int))||(vA ((yY rs).map qp) (tb (yY rs).length F) (qp x)).isSome))=false):=by
 rw[QL o];have e:inD (sh 0) [sh 1,sh 1]=false:=by rfl
 have e2:(vA ([x].map qp) (tb [x].length F) (qp x)).isSome=true:=by
  show(vA [qp x] [F 0] (qp x)).isSome=true;rw[ZA];rfl
 rw[e,e2];simp
end L3
namespace Law
open PySem L2 L3
section
variable {P:Program}{w:World}{K:W.Frag}{mg:Str->Option Value}{base:Heap}{C_Grammar C_Sums C_Parts:Addr}
variable (P w K mg base C_Parts) in
abbrev X3:Prop:=OkM P w K mg base CX0 2 C_Parts "beyond" ["self", "head", "i", "j"] (spP K 4 (iK C_Parts))
theorem kQ (yH:ClsP K C_Parts)(yF:ql K mg "NOUGHT" (sh 0))(d:YD K C_Parts "beyond" "Parts.beyond" jt ["self", "head", "i", "j"])  : X3 P w K mg base C_Parts:=by
 refine zM d kZ rfl fun f cdv A outer s H E hr ds r hC B hB=>?_;obtain⟨sm,rl,sp,hd,kn,h,i,j,rfl,rfl⟩:=hC;refine Y8 (Xr (k:=kS (h,i,j)) hr.units (jd (pq 0 rfl) yH.c yH.n_known_beyonds rfl) (yb (pq 1 rfl) (yb (pq 2 rfl) (yb (pq 3 rfl) yn))) (YB yF rfl)) ?_;show(vA (kn.1.map kS) (kn.2.map sh) (kS (h,i,j))).getD (sh 0)=sh (Zq kn h i j);rw[kg wr];unfold Zq;cases vA kn.1 kn.2 (h,i,j) <;> rfl
variable (P w K mg base C_Grammar C_Sums C_Parts) in
abbrev XE:Prop:=OkM P w K mg base CX0 3 C_Parts "hand" ["self", "body", "i", "j", "pair"] (spN K 5 (omP P w K C_Parts C_Sums C_Grammar) io lC)
theorem Uc (z:Zs mg)(yH:ClsP K C_Parts)(yR:ClsS K C_Sums)(yF:ql K mg "NOUGHT" (sh 0))(d:YD K C_Parts "hand" "Parts.hand" Jj ["self", "body", "i", "j", "pair"]):XE P w K mg base C_Grammar C_Sums C_Parts:=by
 refine lO d uU rfl fun f cdv A outer s H E hr t ds hC B=>?_;obtain⟨hg,⟨s',o⟩,x,p,q,rfl,hx⟩:=hC;obtain⟨a,kb,hd,b,c,g,kn,h,rs,w'⟩:=t;dsimp only at hg o hx;subst hg;refine bL (wj (Γ':=[some (.obj C_Parts pF (pDs C_Sums C_Grammar ⟨a,kb,hd,b,c,true,kn,h,rs,w'⟩)),some (qB [x]),some (.int 0),some (.int 1),some (ju (p,q))]) (PW3.t (Xp (qm (Kf hr.units (YB yF rfl) (pq 4 rfl) (.inr rfl) ?_)) fun _=>(wd (PW3.t (hW (qm (KO (zf z.len rfl (pq 1 rfl)) yB)) fun _=>(av (qm (tj (k:=qp x) hr.units (Yg (d:=.str x) (pq 1 rfl) yB ?_) (jd (jd (pq 0 rfl) yH.c yH.n_sums rfl) yR.c yR.n_chains rfl))))))))) (zk (i:=0) jC rfl yp J9) ⟨fun hk=>?_,fun hk=>?_⟩)
 ·exact iX
 ·rfl
 ·have ex:x=h:=mN o hk;obtain⟨rfl,rfl,rfl⟩:=hx ex;subst ex;refine cL (cC hr.units (eN hr.units (zg (d:=.raw (.ref hd)) (pq 0 rfl) yp yH.c yH.n_handed rfl ⟨hd,rfl,YH (QE (yb (pq 2 rfl) (yb (pq 3 rfl) yn))) ⟨k01,[(k01,.raw (.ref b))],.raw (.ref b),rfl,yc _ (yc _ yp),rfl,b,rfl,⟨[],yc _ (yc _ (yc _ yp))⟩,YH (pq 1 rfl) ⟨kB1 x,rfl,Vi (ZD yn) fun c=>⟨[],_,qv (l₁:=[_,_,_,_]),by decide,(fun d hd=>nomatch hd),fun _=>⟨c,[],rfl,yc _ yp,YH (pq 4 rfl) ⟨[],_,qv (l₁:=[_]),by decide,?_⟩⟩⟩⟩⟩⟩)));refine Yb (Yb ⟨⟨a,kb,hd,b,some c,true,kn,x,rs,w'⟩,[],⟨rfl,x,1,1,rfl,fun _=>⟨c,rfl⟩,fun n=>absurd rfl n⟩,?_⟩);exact cr
 ·refine Yb (Yb ⟨⟨a,kb,hd,b,c,true,kn,h,rs,w'⟩,[],⟨rfl,x,p,q,rfl,fun ex=>?_,fun _=>rfl⟩,by rw[y9]⟩);obtain⟨rfl,rfl,rfl⟩:=hx ex;subst ex;exact absurd hk (eQ o)
variable (P w K mg base C_Grammar C_Sums C_Parts) in
abbrev eO:Prop:=OkM P w K mg base CX0 36 C_Parts "hand_to_heads" ["self", "i", "j"] (spN K 3 (omP P w K C_Parts C_Sums C_Grammar) dv iB)
theorem ZJ (z:Zs mg)(yH:ClsP K C_Parts)(yR:ClsS K C_Sums)(d:YD K C_Parts "hand_to_heads" "Parts.hand_to_heads" Y9 ["self", "i", "j"])(qT:Wb P w K mg base):eO P w K mg base C_Grammar C_Sums C_Parts:=by
 refine lO d Y6 rfl fun f cdv A outer s H E hr t ds hC B=>?_;obtain⟨hg,⟨s',o⟩,⟨c,hc⟩,hn,rfl⟩:=hC;obtain⟨a,kb,hd,b,c',g,kn,h,rs,w'⟩:=t;dsimp only at hg o hc hn;subst hg hc hn;have el:=QL o;refine JP (i:=3) Y6.nd rfl (.inl rfl) (eN hr.units (zg (d:=.raw (.ref hd)) (pq 0 rfl) yp yH.c yH.n_handed rfl ⟨hd,rfl,YH (QE (yb (pq 1 rfl) (yb (pq 2 rfl) yn))) ⟨k01,[(k01,.raw (.ref b))],.raw (.ref b),rfl,yc _ (yc _ yp),wK,?_⟩⟩));refine JP (i:=4) Y6.nd rfl (.inr rfl) (fC (fs:=sF) yR.c yR.n_chains (zg (d:=um C_Sums C_Grammar h rs w') (pq 0 rfl) yp yH.c yH.n_sums rfl ⟨sDs C_Grammar h rs [w'],chD (yY rs) (zm rs),rfl,rfl,?_⟩));refine JP (i:=5) Y6.nd rfl (.inr rfl) (wv fun l=>?_);rw[el];refine jP PassesOwn.never rfl (Wf (pqc 4 rfl)) (fun k Γ Ω=>∃ x6,Γ=[some (.raw (.ref a)),some (.int 0),some (.int 1),some (.raw (.ref b)),some (chD [h] (zm rs)),some (.raw (.ref l)),x6]/\Ω=(l,if k=0 then oDk K [] [] else oDk K [qp h] [sh 1])::omP P w K C_Parts C_Sums C_Grammar ⟨a,kb,hd,b,some c,true,([],[]),h,rs,w'⟩) ⟨_,rfl,rfl⟩ ?_ ?_
 ·rintro k d Γ Ω hd' ⟨x6,rfl,rfl⟩;obtain⟨rfl,rfl⟩:=wy hd';refine⟨_,(yT (i:=6) Y6.nd rfl (.inr rfl)),?_⟩;rw[ye rfl,yd (by decide)];refine wN (l:=l) (k:=qp h) hr.units (pqc 5 rfl) (pqc 6 rfl) (mB (L:=false) (n:=1) qT (hr.mono (by decide)) rfl (oR hr.units (YH (pq 3 rfl) ⟨b,rfl,⟨[(kB1 h,.raw (.ref c))],yc _ (yc _ (yc _ (yc _ yp)))⟩,YH (QE (yb (pqc 6 rfl) yn)) ⟨kB1 h,rfl,Vi (ZD yn) fun c2=>⟨[(kB1 h,.raw (.ref c))],yc _ (yc _ (yc _ (yc _ (yc _ yp)))),?_⟩⟩⟩)));rw[wK];refine⟨c,[ju (1,1)],sh 1,rfl,yc _ (yc _ (yc _ (yc _ (yc _ (yc _ yp))))),Y4 KG (Y4 lF (Y4 zd (Y4 Ke (Y4 VC (Y4 VC (Y4 KG za)))))),bS,rfl,[],[],_,qv (l₁:=[_]),by decide,?_⟩;refine bD (Ω':=(l,oDk K [qp h] [sh 1])::omP P w K C_Parts C_Sums C_Grammar ⟨a,kb,hd,b,some c,true,([],[]),h,rs,w'⟩) (Ω5:=[(c2,Q3 K [])]) (List.Perm.cons _ (List.perm_append_singleton _ _).symm) (Yb ⟨_,rfl,rfl⟩)
 ·rintro Γ Ω ⟨x6,rfl,rfl⟩;rw[yd (by simp)];refine wF (i:=5) rfl ?_;refine jP PassesOwn.never rfl (Wf (pqc 4 rfl)) (fun k Γ Ω=>∃ x6,Γ=[some (.raw (.ref a)),some (.int 0),some (.int 1),some (.raw (.ref b)),some (chD [h] (zm rs)),some (.dk [qp h] [sh 1]),x6]/\Ω=omP P w K C_Parts C_Sums C_Grammar ⟨a,kb,hd,b,some c,true,if k=0 then ([],[]) else kn1 h,h,rs,w'⟩) ⟨_,rfl,rfl⟩ ?_ ?_
  ·rintro k d Γ Ω hd' ⟨x6,rfl,rfl⟩;obtain⟨rfl,rfl⟩:=wy hd';refine⟨_,(yT (i:=6) Y6.nd rfl (.inr rfl)),?_⟩;rw[ye rfl,yd (by decide)];refine Xu (l:=kb) (k:=kS (h,0,1)) (d:=sh 1) hr.units (zg (d:=.raw (.ref kb)) (pq 0 rfl) yp yH.c yH.n_known_beyonds rfl ⟨rfl,rfl⟩) (yb (pqc 6 rfl) (yb (pq 1 rfl) (yb (pq 2 rfl) yn))) (yV (d:=sh 1) qT (hr.mono (by decide)) rfl (yb (PF3.p (qQ (SX:=yi Y9) (XN:=["self", "i", "j", "bodies", "chains", "firsts", "head"]) (N:=["one", "chains", "firsts", "head"]) (nt:=1) (caps:=[4,5,6]) (pre:=(fun k=>([h].take k).map fun _=>ju (1,1))) ⟨rfl,by decide +kernel,by decide +kernel,by decide +kernel,rfl,by decide +kernel⟩ (Wf (pqc 4 rfl)) ?_ ?_ ?_)) yn) ?_) (kt:=[]) (ds:=[]) (qv (l₁:=[_])) (by decide) ?_
   ·intro i hi;rw[yf,y6,sizeLine_eq];have:([h]:List Str).length=1:=rfl;omega
   ·rfl
   ·intro c i d hd';obtain⟨rfl,rfl⟩:=wy hd';refine⟨_,(yT (i:=0) (show List.Nodup (α:=Str) ["one", "chains", "firsts", "head"] by decide +kernel) rfl (.inl rfl)),(Sub.set rfl),.inl ⟨ju (1,1),Qq,(QE (yb (kI (k:=qp h) (d:=sh 1) hr.units (pqc 2 rfl) (pq 0 rfl) ?_) (yb (kI (k:=qp h) (d:=sh 1) hr.units (kI (k:=qp h) (d:=.dk [qp h] (tb 1 fun j=>sh (zm rs 0 j))) hr.units (pqc 1 rfl) (pq 0 rfl) ?_) (pqc 3 rfl) ?_) yn))),?_⟩⟩
    ·exact ZA
    ·exact ZA
    ·rw[←iD o];exact ZA
    ·rfl
   ·exact bS
   ·exact wA (List.Perm.swap ..) (Yb ⟨_,rfl,rfl⟩)
  ·rintro Γ Ω ⟨x6,rfl,rfl⟩;rw[yd (by simp)];exact Yb ⟨⟨a,kb,hd,b,some c,true,kn1 h,h,rs,w'⟩,[],⟨rfl,rfl⟩,by rw[y9]⟩
variable (P w K mg base C_Grammar C_Sums C_Parts) in
abbrev iS:Prop:=OkM P w K mg base CX0 5 C_Parts "hand_to_bodies" ["self", "i", "j"] (spN K 3 (omP P w K C_Parts C_Sums C_Grammar) X1 cy)
theorem Zj (z:Zs mg)(yH:ClsP K C_Parts)(yR:ClsS K C_Sums)(d:YD K C_Parts "hand_to_bodies" "Parts.hand_to_bodies" qu ["self", "i", "j"])(zv:X3 P w K mg base C_Parts)(ZP:XE P w K mg base C_Grammar C_Sums C_Parts):iS P w K mg base C_Grammar C_Sums C_Parts:=by
 refine lO d j7 rfl fun f cdv A outer s H E hr t ds hC B=>?_;obtain⟨hg,⟨s',o⟩,⟨c,hc⟩,hn,rfl⟩:=hC;obtain⟨a,kb,hd,b,c',g,kn,h,rs,w'⟩:=t;dsimp only at hg o hc hn;subst hg hc hn;refine ut PassesOwn.never rfl (wG (fC (fs:=sF) yR.c yR.n_branches (zg (d:=um C_Sums C_Grammar h rs w') (pq 0 rfl) yp yH.c yH.n_sums rfl ⟨sDs C_Grammar h rs [w'],.lst (yG (Je rs)),rfl,rfl,_,rfl,fun k Γ Ω=>∃ x3,Γ=[some (.raw (.ref a)),some (.int 0),some (.int 1),x3]/\Ω=omP P w K C_Parts C_Sums C_Grammar ⟨a,kb,hd,b,some c,true,kn1 h,h,rs,w'⟩,⟨_,rfl,rfl⟩,?_,?_⟩)))
 ·rintro k d Γ Ω hd' ⟨x3,rfl,rfl⟩;rw[uC o] at hd';obtain⟨r,hr',rfl⟩:=qF hd';have mr:=yq hr';obtain⟨e1,e2⟩:=o.b0 mr;have e3:=(o.r r mr).1;refine⟨_,(yT (i:=3) j7.nd rfl (.inl rfl)),?_⟩;refine zL (VJ ⟨a,kb,hd,b,some c,true,kn1 h,h,rs,w'⟩ [] (fs:=pF) (gs:=pDs C_Sums C_Grammar ⟨a,kb,hd,b,some c,true,kn1 h,h,rs,w'⟩) ZP yH.c (hr.mono (by decide)) (YH (pq 0 rfl) ⟨rfl,yp,ZM (YH (Yg (pq 3 rfl) yB rfl) (ZM (YH (pq 1 rfl) (ZM (YH (pq 2 rfl) (ZM (bg (L:=false) (d:=ju (1,r.2.2)) (Γ':=[some (.obj C_Parts pF [um C_Sums C_Grammar h rs w',.lst (yG rs),knD (kn1 h),.lst [JV (0,1)],.raw (.ref hd)]),some (.int 0),some (.int 1),some (Qo r)]) (QE (yb (ZB (d:=sh 1) zv yH.c (hr.mono (by decide)) (pq 0 rfl) Z3 (yb (Yg (pq 3 rfl) yB rfl) (yb (pq 1 rfl) (yb (pq 2 rfl) yn))) ?_) (yb (Yg (pq 3 rfl) yB rfl) yn))) (UM (i:=0) (j:=2) (a:=a) (b:=kb) (xy jC) rfl yp rfl (yc _ yp)) (Y4 zd (Y4 Ke (Y4 VC (Y4 VC (Y4 KG za))))) rfl (ZH yn ⟨by rw[y9],?_,rfl,?_⟩))))))))⟩) vZ)
  ·exact⟨_,_,_,_,kn1 h,h,0,1,by rw[e3];rfl,by unfold Zq kn1;rw[ZA];rfl⟩
  ·refine⟨rfl,⟨s',o⟩,b0 r,1,r.2.2,by rw[e1],fun z=>absurd z e2⟩
  ·rintro t' d ⟨_,x,p,q,eq,q1,q2⟩;have ex:x=b0 r:=by
    rw[e1] at eq;have:=(List.cons.inj (List.cons.inj eq).2).1;unfold qB at this;simpa using this.symm
   rw[q2 (by rw[ex];exact e2)];rw[y9];exact Yb ⟨_,rfl,rfl⟩
 ·rintro Γ Ω ⟨x3,rfl,rfl⟩;exact Yb ⟨⟨a,kb,hd,b,some c,true,kn1 h,h,rs,w'⟩,[],⟨rfl,rfl⟩,by rw[y9]⟩
variable (P w K mg base C_Grammar C_Sums C_Parts) in
abbrev gn:Prop:=OkM P w K mg base CX0 3 C_Parts "hand_within_bodies" ["self", "i", "j"] (spN K 3 (omP P w K C_Parts C_Sums C_Grammar) Xn dN)
theorem J5 (z:Zs mg)(yH:ClsP K C_Parts)(d:YD K C_Parts "hand_within_bodies" "Parts.hand_within_bodies" Yv ["self", "i", "j"]):gn P w K mg base C_Grammar C_Sums C_Parts:=by
 refine lO d ji rfl fun f cdv A outer s H E hr t ds hC B=>?_;obtain⟨hg,⟨c,hc⟩,rfl⟩:=hC;obtain⟨a,kb,hd,b,c',g,kn,h,rs,w'⟩:=t;dsimp only at hg hc;subst hg hc;refine JP (i:=3) ji.nd rfl (.inl rfl) (eN hr.units (zg (d:=.raw (.ref hd)) (pq 0 rfl) yp yH.c yH.n_handed rfl ⟨hd,rfl,YH (QE (yb (pq 1 rfl) (yb (pq 2 rfl) yn))) ⟨k01,[(k01,.raw (.ref b))],.raw (.ref b),rfl,yc _ (yc _ yp),wK,?_⟩⟩));refine ut PassesOwn.never rfl (wG (ly (SX:=yi Yv) (XN:=["self", "i", "j", "bodies", "body", "total", "middle"]) (N:=["known"]) (nt:=1) (caps:=[]) ⟨rfl,by decide +kernel,by decide +kernel,by decide +kernel,rfl,by decide +kernel⟩ (nj (YH (pq 3 rfl) ⟨b,[(kB1 h,.raw (.ref c))],_,rfl,qv (l₁:=[_,_,_]),fun _=>[],fun _ _=>(by show 0<sizeLine;decide),rfl,?_,[],rfl,fun k Γ Ω=>Γ=[some (.raw (.ref a)),some (.int 0),some (.int 1),some (.raw (.ref b)),none,none,none]/\Ω=[(a,jG K C_Parts pF (pDs C_Sums C_Grammar ⟨a,kb,hd,b,some c,true,kn,h,rs,w'⟩)),(kb,oDt K (knK kn) (knV kn)),(hd,Jg P w K hd [(k01,.raw (.ref b))]),(c,Q3 K [ju (1,1)])],⟨rfl,rfl⟩,?_,?_⟩))))
 ·intro c i d hd';cases i with
  |zero=>
   cases hd'
   -- (qW (PF3.p (qQ (SX:=yi Yv) (XN:=["self", "i", "j", "bodies", "body", "total", "middle"]) (N:=["known"]) (nt:=1) (caps:=[]) (pre:=_) ⟨rfl,by decide +kernel,by decide +kernel,by decide +kernel,rfl,by decide +kernel⟩ (qW (pq 3 rfl)) ?_ ?_ ?_)))
   refine⟨_,(yT (i:=0) (show List.Nodup (α:=Str) ["known"] by decide +kernel) rfl (.inl rfl)),(Sub.set rfl),.inr ⟨(K7 (qm (KO (zf z.len rfl (pq 0 rfl)) yB)) ?_),?_⟩⟩
   ·exact yC (show ¬ (1:Int)<((1:Nat):Int) by decide)
   ·rfl
  |succ i=>simp at hd'
 ·rintro k d Γ Ω hd' _;simp at hd'
 ·rintro Γ Ω ⟨rfl,rfl⟩;exact Yb ⟨⟨a,kb,hd,b,some c,false,kn,h,rs,w'⟩,[(c,Q3 K [ju (1,1)])],⟨rfl,rfl⟩,List.Perm.refl _⟩
end
section
variable {P:Program}{w:World}{K:W.Frag}{mg:Str->Option Value}{base:Heap}{C_Grammar C_Sums C_Parts:Addr}
variable (P w K mg base C_Grammar C_Sums C_Parts) in
abbrev iG:Prop:=OkI P w K mg base CX0 42 "Parts" C_Parts ["self", "grammar", "row"] (dC K 3 C_Parts (fi C_Grammar) (mX C_Sums C_Grammar))
theorem eD (z:Zs mg)(yH:ClsP K C_Parts)(yR:ClsS K C_Sums)(yv:ClsG K C_Grammar)(yF:ql K mg "NOUGHT" (sh 0))(jQ:ql K mg "ONE" (sh 1))(d:zG K mg "Parts" C_Parts "Parts.__init__" QN ["self", "grammar", "row"])(aP:am P w K mg base C_Grammar C_Sums)(Jl:wH P w K mg base C_Grammar C_Sums)(qi:V1 P w K mg base C_Grammar)(Q4:Wh P w K mg base C_Grammar)(vF:ag P w K mg base)(ZP:XE P w K mg base C_Grammar C_Sums C_Parts)(vf:eO P w K mg base C_Grammar C_Sums C_Parts)(ZU:iS P w K mg base C_Grammar C_Sums C_Parts)(zx:gn P w K mg base C_Grammar C_Sums C_Parts):iG P w K mg base C_Grammar C_Sums C_Parts:=by
 refine ez d je rfl fun f cdv A outer s H E hr a ds hC B hB=>?_;obtain⟨h,rs,s',r,rfl,o,mr⟩:=hC;have sk:=UH o (b0 r);refine jS (a:=a) (pq 0 rfl) yH.c yH.n_sums (YH (d:=um C_Sums C_Grammar h rs (b0 r)) (ue (r:=(sF,sDs C_Grammar h rs [b0 r])) aP (hr.mono (by decide)) rfl (yb (pq 1 rfl) (yb (pq 2 rfl) yn)) ⟨h,rs,[b0 r],s',rfl,rfl,sk⟩) ⟨[],[],[],List.Perm.refl _,by simp,by decide,?_⟩);refine bL (wj (Γ':=[some (.obj C_Parts ["sums"] [um C_Sums C_Grammar h rs (b0 r)]),some (gD C_Grammar h rs),some (qB [b0 r]),none,none,none]) (qm (af hr.units (vL (d:=sh r.2.2) Jl yR.c (hr.mono (by decide)) (jd (pq 0 rfl) yH.c yH.n_sums rfl) zR ?_) (YB yF rfl) j5 j4)) (zk (i:=0) jC rfl yp J9) ⟨fun hk=>?_,fun _=>?_⟩)
 ·refine⟨h,rs,[b0 r],_,_,_,_,VG rs [b0 r],rfl,?_⟩;show sh r.2.2=sh (Zq (VG rs [b0 r]) h 0 1);rw[VZ o mr]
 ·rw[jR] at hk;have:=(o.q r mr).1;rw[of_decide_eq_true hk] at this;exact absurd this (by decide)
 refine Yb ?_;refine jS (a:=a) (pq 0 rfl) yH.c yH.n_known_rules (YH (PF3.p (Jh (ds:=yG rs) qi yv.c (hr.mono (by decide)) (pq 1 rfl) QU ⟨h,rs,rfl,rfl⟩)) ⟨_,_,[],List.Perm.refl _,by decide,by decide,?_⟩);refine jS (a:=a) (pq 0 rfl) yH.c yH.n_known_beyonds (Xz fun kb=>⟨_,_,[(kb,oDt K [] [])],List.Perm.swap ..,by decide,by decide,?_⟩);refine jS (a:=a) (pq 0 rfl) yH.c yH.n_spans (YH (yV (d:=.lst [JV (0,1)]) vF (hr.mono (by decide)) rfl (yb (pq 2 rfl) yn) ?_) ⟨_,_,[(kb,oDt K [] [])],List.Perm.refl _,by decide,by decide,?_⟩)
 ·exact⟨[b0 r],rfl,rfl,YI rfl⟩
 refine jS (a:=a) (pq 0 rfl) yH.c yH.n_handed (Xh fun hd=>⟨_,_,[(hd,Jg P w K hd []),(kb,oDt K [] [])],List.Perm.swap ..,by decide,by decide,?_⟩);refine ut PassesOwn.never rfl (wG (zg (a:=a) (d:=.lst [JV (0,1)]) (pq 0 rfl) yp yH.c yH.n_spans rfl ⟨_,rfl,fun k Γ Ω=>∃ x3,Γ=[some (.raw (.ref a)),some (gD C_Grammar h rs),some (qB [b0 r]),x3,none,none]/\((k=0/\Ω=[(a,jG K C_Parts pF [um C_Sums C_Grammar h rs (b0 r),.lst (yG rs),.raw (.ref kb),.lst [JV (0,1)],.raw (.ref hd)]),(hd,Jg P w K hd []),(kb,oDt K [] [])])∨k=1/\∃ b,Ω=[(hd,Jg P w K hd [(k01,.raw (.ref b))]),(b,Jg P w K b []),(a,jG K C_Parts pF [um C_Sums C_Grammar h rs (b0 r),.lst (yG rs),.raw (.ref kb),.lst [JV (0,1)],.raw (.ref hd)]),(kb,oDt K [] [])]),⟨_,rfl,.inl ⟨rfl,rfl⟩⟩,?_,?_⟩))
 ·rintro k d Γ Ω hd' ⟨x3,rfl,⟨rfl,rfl⟩|⟨rfl,b,rfl⟩⟩
  ·cases hd';refine⟨_,(yT (i:=3) je.nd rfl (.inl rfl)),?_⟩;refine eM hr.units (Xh fun b=>zg (a:=a) (d:=.raw (.ref hd)) (pq 0 rfl) (yc _ yp) yH.c yH.n_handed rfl ⟨hd,rfl,YH (pq 3 rfl) ⟨k01,[],_,rfl,qv (l₁:=[_,_]),by decide,?_⟩⟩);exact Yb ⟨_,rfl,.inr ⟨rfl,b,rfl⟩⟩
  ·simp at hd'
 ·rintro Γ Ω ⟨x3,rfl,⟨e,_⟩|⟨_,b,rfl⟩⟩
  ·exact absurd e (by decide)
  refine zL (VJ ⟨a,kb,hd,b,none,true,([],[]),h,rs,b0 r⟩ [] (fs:=pF) (gs:=[um C_Sums C_Grammar h rs (b0 r),.lst (yG rs),.raw (.ref kb),.lst [JV (0,1)],.raw (.ref hd)]) ZP yH.c (hr.mono (by decide)) (YH (pq 0 rfl) ⟨rfl,yc _ (yc _ yp),ZH (yb (QE (yb (vL (d:=.str h) Q4 yv.c (hr.mono (by decide)) (pq 1 rfl) JA ⟨h,rs,rfl,rfl⟩) yn)) (yb yB (yb (zf z.len rfl (pq 2 rfl)) (yb (QE (yb (YB jQ rfl) (yb (YB jQ rfl) yn))) yn)))) ⟨og,⟨rfl,⟨s',o⟩,h,1,1,rfl,fun _=>⟨rfl,rfl,rfl⟩⟩,rfl,?_⟩⟩) vZ);rintro t' d ⟨_,x,p,q,eq,q1,q2⟩;have ex:x=h:=by
   have:=(List.cons.inj (List.cons.inj eq).2).1;unfold qB at this;simpa using this.symm
  obtain⟨c,rfl⟩:=q1 ex;rw[y9];refine ut PassesOwn.never rfl (rV z.reversed rfl (zg (a:=a) (d:=.lst [JV (0,1)]) (pq 0 rfl) yp yH.c yH.n_spans rfl ⟨_,rfl,fun k Γ Ω=>∃ x3 x4 x5,Γ=[some (.raw (.ref a)),some (gD C_Grammar h rs),some (qB [b0 r]),x3,x4,x5]/\((k=0/\Ω=omP P w K C_Parts C_Sums C_Grammar ⟨a,kb,hd,b,some c,true,([],[]),h,rs,b0 r⟩)∨k=1/\Ω=omP P w K C_Parts C_Sums C_Grammar ⟨a,kb,hd,b,some c,false,kn1 h,h,rs,b0 r⟩),⟨_,_,_,rfl,.inl ⟨rfl,rfl⟩⟩,?_,?_⟩))
  ·rintro k d Γ Ω hd' ⟨x3,x4,x5,rfl,⟨rfl,rfl⟩|⟨rfl,rfl⟩⟩
   ·cases hd';refine⟨_,(Z1 rfl (qr (yT (i:=4) je.nd rfl (.inl rfl)) (qr (yT (i:=5) je.nd rfl (.inl rfl)) JN))),?_⟩;refine zL (VJ ⟨a,kb,hd,b,some c,true,([],[]),h,rs,b0 r⟩ [] (fs:=pF) (gs:=pDs C_Sums C_Grammar ⟨a,kb,hd,b,some c,true,([],[]),h,rs,b0 r⟩) vf yH.c (hr.mono (by decide)) (YH (pq 0 rfl) ⟨rfl,yp,ZH (yb (pq 4 rfl) (yb (pq 5 rfl) yn)) ⟨by rw[y9],⟨rfl,⟨s',o⟩,⟨c,rfl⟩,rfl,rfl⟩,rfl,?_⟩⟩) Zt);rintro t' d ⟨_,rfl⟩;rw[y9];refine zL (VJ ⟨a,kb,hd,b,some c,true,kn1 h,h,rs,b0 r⟩ [] (fs:=pF) (gs:=pDs C_Sums C_Grammar ⟨a,kb,hd,b,some c,true,kn1 h,h,rs,b0 r⟩) ZU yH.c (hr.mono (by decide)) (YH (pq 0 rfl) ⟨rfl,yp,ZH (yb (pq 4 rfl) (yb (pq 5 rfl) yn)) ⟨by rw[y9],⟨rfl,⟨s',o⟩,⟨c,rfl⟩,rfl,rfl⟩,rfl,?_⟩⟩) Zp);rintro t' d ⟨_,rfl⟩;rw[y9];refine zL (VJ ⟨a,kb,hd,b,some c,true,kn1 h,h,rs,b0 r⟩ [] (fs:=pF) (gs:=pDs C_Sums C_Grammar ⟨a,kb,hd,b,some c,true,kn1 h,h,rs,b0 r⟩) zx yH.c (hr.mono (by decide)) (YH (pq 0 rfl) ⟨rfl,yp,ZH (yb (pq 4 rfl) (yb (pq 5 rfl) yn)) ⟨by rw[y9],⟨rfl,⟨c,rfl⟩,rfl⟩,rfl,?_⟩⟩) J3);rintro t' d ⟨_,rfl⟩;rw[y9];exact Yb ⟨_,_,_,rfl,.inr ⟨rfl,rfl⟩⟩
   ·simp at hd'
  ·rintro Γ Ω ⟨x3,x4,x5,rfl,⟨e,_⟩|⟨_,rfl⟩⟩
   ·exact absurd e (by decide)
   refine bD (Ω':=[(a,jG K C_Parts pF [um C_Sums C_Grammar h rs (b0 r),.lst (yG rs),.raw (.ref kb),.lst [JV (0,1)],.raw (.ref hd)]),(kb,oDt K (knK (kn1 h)) (knV (kn1 h)))]) (Ω5:=[(hd,Jg P w K hd [(k01,.raw (.ref b))])]) (List.Perm.refl _) (iQ (j:=2) rfl (Yb ⟨(pF,ig C_Sums C_Grammar h rs (b0 r) hd),fun h' rs' w' e=>?_,rfl⟩));obtain⟨e1,e2⟩:=List.cons.inj e;obtain⟨e3,_⟩:=List.cons.inj e2;obtain⟨rfl,rfl⟩:=pb e1;cases U2 e3;exact⟨hd,rfl⟩
variable (P w K mg base C_Grammar C_Sums C_Parts) in
abbrev hZ:Prop:=OkM P w K mg base CX0 36 C_Parts "uses" ["self", "rule"] (spP K 2 (rB C_Parts C_Sums C_Grammar))
theorem Ug (z:Zs mg)(yH:ClsP K C_Parts)(yR:ClsS K C_Sums)(yv:ClsG K C_Grammar)(d:YD K C_Parts "uses" "Parts.uses" jH ["self", "rule"])(zv:X3 P w K mg base C_Parts)(jz:aj P w K mg base C_Sums)(qT:Wb P w K mg base)(Jo:KW P w K mg base)(vB:bE P w K mg base)(Jl:wH P w K mg base C_Grammar C_Sums):hZ P w K mg base C_Grammar C_Sums C_Parts:=by
 refine zM d JI rfl fun f cdv A outer s H E hr ds r hC B hB=>?_;obtain⟨h,rs,s',r,hd,j,q,rfl,o,mr,hq,rfl⟩:=hC;have mq:=yq hq;obtain⟨e1,e2⟩:=o.b0 mq;have e3:=(o.r q mq).1;have hat:atI (yG rs) (j:Int)=some (Qo q):=Ki (by unfold yG;rw[yl,hq];rfl)
 refine YC (i:=2) JI.nd rfl (.inr rfl) (Yg (QS (d:=Qo q) (jd (pqc 0 rfl) yH.c yH.n_known_rules rfl) (pq 1 rfl) ?_) yB rfl) ?_
 ·exact hat
 refine YC (i:=3) JI.nd rfl (.inr rfl) (Yg (QS (d:=Qo q) (jd (pqc 0 rfl) yH.c yH.n_known_rules rfl) (pq 1 rfl) ?_) yB rfl) ?_
 ·exact hat
 rw[e3];have wq:=wT (kn:=VG rs [b0 r]) (w:=b0 r) e2;have q0:(0:Rat)<=(if b0 q=b0 r then 1 else 0)/\Sz 1 (if b0 q=b0 r then 1 else 0):=by
  split
  ·exact⟨by decide,VA⟩
  ·exact⟨by decide,V4⟩
 refine ZL (i:=4) (SX:=yi jH) (XN:=["self", "rule", "head", "body", "pairs"]) (N:=["i", "j", "self", "head", "body"]) (nt:=2) (caps:=[0,2,3]) (pre:=(fun i=>([(1,if b0 q=b0 r then 1 else 0)].take i).map ju))  ⟨rfl,by decide +kernel,by decide +kernel,by decide +kernel,rfl,by decide +kernel⟩ JI.nd rfl (.inl rfl)  (qW (jd (pqc 0 rfl) yH.c yH.n_spans rfl)) ?_ ?_ ?_ ?_
 ·intro i hi;rw[yf,y6,sizeLine_eq];have:([((1:Rat),if b0 q=b0 r then (1:Rat) else 0)]).length=1:=rfl;omega
 ·rfl
 ·intro c i d hd';cases i with
  |zero=>
   cases hd';refine⟨_,(Z1 rfl (qr (yT (i:=0) (show List.Nodup (α:=Str) ["i", "j", "self", "head", "body"] by decide +kernel) rfl (.inl rfl)) (qr (yT (i:=1) (show List.Nodup (α:=Str) ["i", "j", "self", "head", "body"] by decide +kernel) rfl (.inl rfl)) JN))),(Sub.trans (Sub.set rfl) (Sub.set rfl)),.inl ⟨ju (1,if b0 q=b0 r then 1 else 0),Qq,(QE (yb (ZB (d:=sh 1) zv yH.c (hr.mono (by decide)) (pqc 2 rfl) Z3 (yb (pqc 3 rfl) (yb (pq 0 rfl) (yb (pq 1 rfl) yn))) ?_) (yb (ZB (d:=sh (if b0 q=b0 r then 1 else 0)) jz yR.c (hr.mono (by decide)) (jd (pqc 2 rfl) yH.c yH.n_sums rfl) Ju (yb (pqc 4 rfl) (yb (pq 0 rfl) (yb (pq 1 rfl) yn))) ?_) yn))),?_⟩⟩
   ·exact⟨_,_,_,_,kn1 h,h,0,1,rfl,by unfold Zq kn1;rw[ZA];rfl⟩
   ·refine⟨_,_,_,_,[b0 r],y8 rs,VG rs [b0 r],b0 q,0,1,by rw[e1];rfl,?_,Nat.zero_lt_one⟩;rw[j6 o,wq]
   ·rfl
  |succ i=>simp at hd'
 have hs:s'<=100:=o.s2;refine Y8 (yV (d:=sh (if b0 q=b0 r then 1 else 0)) vB (hr.mono (by decide)) rfl (yb (yV (d:=sh (q.2.2*(if b0 q=b0 r then 1 else 0))) Jo (hr.mono (by decide)) rfl (yb (Yg (QS (d:=Qo q) (jd (pqc 0 rfl) yH.c yH.n_known_rules rfl) (pq 1 rfl) ?_) yB rfl) (yb (yV (d:=sh (if b0 q=b0 r then 1 else 0)) qT (hr.mono (by decide)) rfl (yb (pq 4 rfl) yn) ?_) yn)) ?_) (yb (vL (d:=sh r.2.2) Jl yR.c (hr.mono (by decide)) (jd (pqc 0 rfl) yH.c yH.n_sums rfl) zR ?_) yn)) ?_) ?_
 ·exact hat
 ·refine⟨[(1,if b0 q=b0 r then 1 else 0)],1,rfl,?_,fun p hp=>?_,YI rfl,by decide⟩
  ·congr 1;show _=(0:Rat)+1*_;grind
  ·rw[yD.mp hp];exact⟨⟨(by decide:(0:Rat)<=1),VA⟩,q0⟩
 ·have big':big=67108864:=rfl;exact⟨q.2.2,if b0 q=b0 r then 1 else 0,s',1,rfl,rfl,Yu (o.q q mq).1,q0.1,(o.q q mq).2,q0.2,by omega,by omega,trivial⟩
 ·refine⟨h,rs,[b0 r],_,_,_,_,VG rs [b0 r],rfl,?_⟩;show sh r.2.2=sh (Zq (VG rs [b0 r]) h 0 1);rw[VZ o mr]
 ·have big':big=67108864:=rfl;exact⟨q.2.2*(if b0 q=b0 r then 1 else 0),r.2.2,s'+1,s',rfl,(by show sh _=sh (q.2.2*_ / r.2.2);rw[rp o mq mr]),zr (Yu (o.q q mq).1) q0.1,Yu (o.q r mr).1,v4 (o.q q mq).2 q0.2,(o.q r mr).2,by omega,by omega,(o.q r mr).1⟩
 rfl
end
end Law
namespace L3
open PySem PySem.Spec PySem.Calls PyProof.Rows L2
section
variable {rs:List yL}{M b s:Nat}{w:Str}
end
abbrev Ct:=List (List Str×Nat)
def ctD (c:List Str×Nat):D:=.tup [qB c.1,.int (c.2:Int)]
def ke (cs:Ct):List D:=cs.map ctD
theorem eZ {cs:Ct}{i:Nat}{d:D}(h:(ke cs)[i]?=some d):∃ c,cs[i]?=some c/\d=ctD c:=by
 unfold ke at h;rw[yl] at h;obtain⟨c,hc,e⟩:=yX.mp h;exact⟨c,hc,e.symm⟩
theorem uA {cs:Ct}:(ke cs).length=cs.length:=yf _
def pwQ (q w:Rat):Nat->Rat
 |0=>q
 |n+1=>pwQ q w n*w
abbrev Cq:=List (yL×Nat)
def sX (p:yL×Nat):List Str×Nat:=([b0 p.1],p.2)
def Js (cq:Cq):Ct:=cq.map sX
def zN (cq:Cq):Rat:=cq.foldl (fun q p=>pwQ q p.1.2.2 p.2) 1
def cF (rs:List yL)(cq:Cq):Prop:=cq.length<=5/\∀ p∈cq,p.1∈rs/\p.2<=9
theorem U4 {cq:Cq}{i:Nat}{d:D}(h:(ke (Js cq))[i]?=some d):∃ p,cq[i]?=some p/\d=.tup [qB [b0 p.1],.int (p.2:Int)]:=by
 obtain⟨c,hc,rfl⟩:=eZ h;unfold Js at hc;rw[yl] at hc;obtain⟨p,hp,rfl⟩:=yX.mp hc;exact⟨p,hp,rfl⟩
theorem Xa {q w:Rat}{m s:Nat}(hq:0<=q/\Sz m q)(hw:0<=w/\Sz s w):∀ n,0<=pwQ q w n/\Sz (m+n*s) (pwQ q w n)
 |0=>⟨hq.1,hq.2.mono (by omega)⟩
 |n+1=>by
  have a:=Xa hq hw n;exact⟨zr a.1 hw.1,(v4 a.2 hw.2).mono (by rw[Nat.add_mul];omega)⟩
theorem K1 {cq:Cq}{i:Nat}{p:yL×Nat}(hp:cq[i]?=some p):zN (cq.take (i+1))=pwQ (zN (cq.take i)) p.1.2.2 p.2:=by
 unfold zN;rw[Yo hp,qg];rfl
theorem Vm {h:Str}{rs:List yL}{s:Nat}{cq:Cq}(o:One h rs s)(ok:cF rs cq):∀ i,i<=cq.length->0<=zN (cq.take i)/\Sz (1+i*900) (zN (cq.take i))
 |0,_=>⟨(by decide:(0:Rat)<=1),VA⟩
 |i+1,hi=>by
  have a:=Vm o ok i (by omega);have hp:cq[i]?=some cq[i]:=ym (by omega);obtain⟨m1,m2⟩:=ok.2 _ (yq hp);have b:=o.q _ m1;rw[K1 hp];have c:=Xa a ⟨Yu b.1,b.2⟩ cq[i].2;have s2:=o.s2;have e:cq[i].2*s<=9*100:=qK m2 s2;exact⟨c.1,c.2.mono (by omega)⟩
def lw (Cg:Addr):List D->D->Prop:=fun ds d=>∃ (h:Str) (rs:List yL) (s:Nat) (cq:Cq),ds=[gD Cg h rs,.lst (ke (Js cq))]/\d=sh (zN cq)/\One h rs s/\cF rs cq
def Q1 (cq:Cq)(q:yL):Nat:=(cq.map fun p=>if b0 q=b0 p.1 then p.2 else 0).sum
def zi (n:Nat):D:=sh ((n:Nat):Rat)
theorem vi {n k:Nat}(h:n<2 ^ k)(hk:1<=k):Sz k ((n:Nat):Rat):=by
 refine⟨?_,?_⟩
 ·show((n:Rat)).num.natAbs<2 ^ k;rw[Rat.num_natCast,jk];exact h
 ·show((n:Rat)).den<2 ^ k;rw[Rat.den_natCast];exact Nat.one_lt_two_pow (by omega)
theorem v5 {n:Nat}:(0:Rat)<=((n:Nat):Rat):=by exact_mod_cast qU n
theorem Xv {rs:List yL}{cq:Cq}(ok:cF rs cq){q:yL}:∀ i,i<=cq.length->Q1 (cq.take i) q<=9*i
 |0,_=>yo _
 |i+1,hi=>by
  have a:=Xv ok (q:=q) i (by omega);have hp:cq[i]?=some cq[i]:=ym (by omega);have b:=(ok.2 _ (yq hp)).2;unfold Q1 at a ⊢;rw[Yo hp,yr,List.sum_append];simp only[yy,QB,qA,List.sum_nil];split <;> omega
theorem gk {cq:Cq}{i:Nat}{p:yL×Nat}(hp:cq[i]?=some p){q:yL}:((Q1 (cq.take (i+1)) q:Nat):Rat)=(Q1 (cq.take i) q:Rat)+(p.2:Rat)*(if b0 q=b0 p.1 then 1 else 0):=by
 unfold Q1;rw[Yo hp,yr,List.sum_append];simp only[yy,QB,qA,List.sum_nil];split
 ·push_cast;grind
 ·push_cast;grind
def U5 (rs:List yL)(cq:Cq):D:=.lst (rs.map fun q=>zi (Q1 cq q))
noncomputable def pJ (Cg:Addr):List D->D->Prop:=fun ds d=>∃ (h:Str) (rs:List yL) (s:Nat) (cq:Cq),ds=[gD Cg h rs,.lst (ke (Js cq))]/\d=U5 rs cq/\One h rs s/\cF rs cq
def oS:List D->D->Prop:=fun ds d=>∃ (h:Str) (rs:List yL) (ns:List Nat),ds=[.lst (yG rs),.lst (ns.map zi)]/\d=.dk [qp h] [zi ns.sum]/\(∀ r∈rs,r.1=h)/\rs.length=ns.length/\1<=ns.length/\ns.length<=5/\∀ n∈ns,n<=45
def zE (rs:List yL)(cq:Cq):Nat:=(rs.map (Q1 cq)).sum
def fR (h:Str)(t:Nat)(cq:Cq)(rs:List yL):List yL:=(rs.filter fun q=>decide (Q1 cq q≠0)).map fun q=>(h,q.2.1,(Q1 cq q:Rat) / (t:Rat))
noncomputable def mz (Cg:Addr):List D->D->Prop:=fun ds d=>∃ (h:Str) (rs:List yL) (s:Nat) (cq:Cq),ds=[gD Cg h rs,.lst (ke (Js cq))]/\d=gD Cg h (fR h (zE rs cq) cq rs)/\One h rs s/\cF rs cq/\0<zE rs cq/\GV h (fR h (zE rs cq) cq rs)
theorem gy {α:Type}{xs:List α}{f:α->D}{k:Nat}{d:D}(h:(Vy (xs.map f))[k]?=some d):∃ x,xs[k]?=some x/\d=.tup [.int (k:Int),f x]:=by
 unfold Vy at h;rw[List.getElem?_mapIdx,yl] at h;cases e:xs[k]? with
 |none=>rw[e] at h;cases h
 |some x=>rw[e] at h;exact⟨x,rfl,(Option.some.inj h).symm⟩
theorem iY {ds:List D}:(Vy ds).length=ds.length:=jK
theorem cP {rs:List yL}{ns:List Nat}{i:Nat}{d:D}(h:(vb (yG rs) (ns.map zi))[i]?=some d):∃ r n,rs[i]?=some r/\ns[i]?=some n/\d=.tup [Qo r,zi n]:=by
 unfold vb at h;rw[yl] at h;obtain⟨p,h1,h2⟩:=yX.mp h;obtain⟨a,b⟩:=YE.mp h1;obtain⟨r,hr,er⟩:=qF a;rw[yl] at b;obtain⟨n,hn,en⟩:=yX.mp b;exact⟨r,n,hr,hn,by rw[←h2,er,←en]⟩
theorem dj {rs:List yL}{ns:List Nat}(h:rs.length=ns.length):(vb (yG rs) (ns.map zi)).length=ns.length:=by
 unfold vb;rw[yf,YG,YX,yf];omega
theorem ay {ns:List Nat}(h:∀ n∈ns,n<=45):∀ i,i<=ns.length->(ns.take i).sum<=45*i
 |0,_=>yo _
 |i+1,hi=>by
  have a:=ay h i (by omega);have hp:ns[i]?=some ns[i]:=ym (by omega);have b:=h _ (yq hp);rw[Yo hp,List.sum_append];simp only[qA,List.sum_nil];omega
theorem ol {κ:Type}[DecidableEq κ]{k:κ}:pK [k] k=[k]:=by unfold pK;rw[ye (by simp)]
theorem oC {κ α:Type}[DecidableEq κ]{k:κ}{x y:α}:pA [k] [x] k y=[y]:=by unfold pA;rw[ye (by simp)];simp
def kH (h:Str)(i:Nat):List Key:=if i=0 then [] else [qp h]
def vH (ns:List Nat)(i:Nat):List D:=if i=0 then [] else [zi (ns.take i).sum]
theorem oW {h:Str}{i:Nat}:(kH h i).length<sizeLine:=by
 unfold kH;split
 ·show 0<sizeLine;decide
 ·show 1<sizeLine;decide
theorem pD {h:Str}{i:Nat}:pK (kH h i) (qp h)=kH h (i+1):=by
 unfold kH;rw[yd (show ¬ i+1=0 by omega)];split
 ·rfl
 ·exact ol
theorem oi {h:Str}{ns:List Nat}{i n:Nat}(hn:ns[i]?=some n):pA (kH h i) (vH ns i) (qp h) (sh ((((ns.take i).sum:Nat):Rat)+((n:Nat):Rat)))=vH ns (i+1):=by
 have es:(ns.take (i+1)).sum=(ns.take i).sum+n:=by rw[Yo hn,List.sum_append];simp
 have en:zi (ns.take (i+1)).sum=sh ((((ns.take i).sum:Nat):Rat)+((n:Nat):Rat)):=by unfold zi;rw[es];push_cast;rfl
 unfold kH vH;rw[yd (show ¬ i+1=0 by omega),en];by_cases e:i=0
 ·rw[ye e,ye e];rfl
 ·rw[yd e,yd e,oC]
theorem rT {h:Str}{ns:List Nat}{i:Nat}:(vA (kH h i) (vH ns i) (qp h)).getD (sh 0)=sh (((ns.take i).sum:Nat):Rat):=by
 unfold kH vH;by_cases e:i=0
 ·subst e;rw[ye rfl,ye rfl];rfl
 ·rw[yd e,yd e,ZA];rfl
theorem At {X:Cx}{Γ:Ga}{a b:Expr}{op:CmpOp}{k k':Bool}(h:C3 X Γ a op b k')(e:k'=k):C3 X Γ a op b k:=e▸h
theorem dB {rs:List yL}{f:yL->D}{i:Nat}{d:D}(h:(vb (yG rs) (rs.map f))[i]?=some d):∃ r,rs[i]?=some r/\d=.tup [Qo r,f r]:=by
 unfold vb at h;rw[yl] at h;obtain⟨p,h1,h2⟩:=yX.mp h;obtain⟨a,b⟩:=YE.mp h1;obtain⟨r,hr,er⟩:=qF a;rw[yl,hr] at b;exact⟨r,hr,by rw[←h2,er,←Option.some.inj b]⟩
theorem cT {rs:List yL}{f:yL->D}:(vb (yG rs) (rs.map f)).length=rs.length:=by
 unfold vb;rw[yf,YG,YX,yf];omega
theorem oV {h:Str}{t:Nat}{cq:Cq}{rs:List yL}:(fR h t cq rs).length<=rs.length:=by
 unfold fR;rw[yf];exact Ym _ _
theorem o6 {h:Str}{t:Nat}{cq:Cq}{rs:List yL}{q:yL}(hc:Q1 cq q≠0):fR h t cq (rs++[q])=fR h t cq rs++[(h,q.2.1,(Q1 cq q:Rat) / (t:Rat))]:=by
 unfold fR;rw[Yy,Yl (by simpa using hc),yr];rfl
theorem tE {h:Str}{t:Nat}{cq:Cq}{rs:List yL}{q:yL}(hc:Q1 cq q=0):fR h t cq (rs++[q])=fR h t cq rs:=by
 unfold fR;rw[Yy,Yp (by simpa using hc)];simp
end L3
namespace Law
open PySem L2 L3
section
variable {P:Program}{w:World}{K:W.Frag}{mg:Str->Option Value}{base:Heap}{C_Grammar C_Sums C_Parts:Addr}
variable (P w K mg base C_Grammar) in
abbrev eI:Prop:=OkF P w K mg base CX0 42 "likely" ["grammar", "counted"] (spP K 2 (lw C_Grammar))
theorem db (z:Zs mg)(yv:ClsG K C_Grammar)(yR:ClsS K C_Sums)(jQ:ql K mg "ONE" (sh 1))(d:Yn K mg "likely" vt ["grammar", "counted"])(aP:am P w K mg base C_Grammar C_Sums)(Jl:wH P w K mg base C_Grammar C_Sums)(Jo:KW P w K mg base):eI P w K mg base C_Grammar:=by
 refine Yz d JD rfl fun f cdv A outer s H E hr ds r hC B hB=>?_;obtain⟨h,rs,s',cq,rfl,rfl,o,ok⟩:=hC;have big':big=67108864:=rfl;refine YC (i:=2) JD.nd rfl (.inl rfl) (YB jQ rfl) ?_;refine jP PassesOwn.never rfl (qW (pq 1 rfl)) (fun i Γ Ω=>∃ x3 x4 x5 x6,Γ=[some (gD C_Grammar h rs),some (.lst (ke (Js cq))),some (sh (zN (cq.take i))),x3,x4,x5,x6]/\Ω=[]) ⟨_,_,_,_,rfl,rfl⟩ ?_ ?_
 ·rintro i d Γ Ω hd ⟨x3,x4,x5,x6,rfl,rfl⟩;obtain⟨p,hp,rfl⟩:=U4 hd;have hi:i<cq.length:=(yh.mp hp).1;obtain⟨m1,m2⟩:=ok.2 p (yq hp);have wz:0<=p.1.2.2/\Sz s' p.1.2.2:=⟨Yu (o.q _ m1).1,(o.q _ m1).2⟩
  have lz:=Vm o ok i (by omega);have l5:=ok.1;have s2:=o.s2;refine⟨_,(Z1 rfl (qr (yT (i:=3) JD.nd rfl (.inl rfl)) (qr (yT (i:=4) JD.nd rfl (.inl rfl)) JN))),?_⟩;refine YC (i:=5) JD.nd rfl (.inl rfl) (vL (d:=sh p.1.2.2) Jl yR.c (hr.mono (by decide)) (ue (r:=(sF,sDs C_Grammar h rs [b0 p.1])) aP (hr.mono (by decide)) rfl (yb (pq 0 rfl) (yb (pq 3 rfl) yn)) ?_) zR ?_) ?_
  ·exact⟨h,rs,[b0 p.1],s',rfl,rfl,UH o _⟩
  ·refine⟨h,rs,[b0 p.1],_,_,_,_,VG rs [b0 p.1],rfl,?_⟩;show sh p.1.2.2=sh (Zq (VG rs [b0 p.1]) h 0 1);rw[VZ o m1]
  rw[K1 hp];generalize zN (cq.take i)=q at *;refine jP PassesOwn.never rfl (QR (n:=p.2) z.range rfl (pq 4 rfl) ?_ ?_) (fun j Γ Ω=>∃ x6,Γ=[some (gD C_Grammar h rs),some (.lst (ke (Js cq))),some (sh (pwQ q p.1.2.2 j)),some (qB [b0 p.1]),some (.int (p.2:Int)),some (sh p.1.2.2),x6]/\Ω=[]) ⟨_,rfl,rfl⟩ ?_ ?_
  ·rfl
  ·omega
  ·rintro j d Γ Ω hd ⟨x6,rfl,rfl⟩;obtain⟨hj,rfl⟩:=jc hd;rw[YV];have pz:=Xa lz wz j;have e9:j*s'<=9*100:=qK (by omega) s2;refine⟨_,(yT (i:=6) JD.nd rfl (.inl rfl)),?_⟩;refine YC (i:=2) JD.nd rfl (.inl rfl) (yV (d:=sh (pwQ q p.1.2.2 (j+1))) Jo (hr.mono (by decide)) rfl (yb (pq 2 rfl) (yb (pq 5 rfl) yn)) ?_) ?_
   ·exact⟨_,_,_,_,rfl,rfl,pz.1,wz.1,pz.2,wz.2,by omega,by omega,trivial⟩
   ·exact Yb ⟨_,rfl,rfl⟩
  ·rintro Γ Ω ⟨x6,rfl,rfl⟩;rw[YS];exact Yb ⟨_,_,_,_,rfl,rfl⟩
 ·rintro Γ Ω ⟨x3,x4,x5,x6,rfl,rfl⟩;rw[uA,show(Js cq).length=cq.length from yf _,yK];refine Y8 (pq 2 rfl) ?_;rfl
variable (P w K mg base C_Grammar) in
abbrev ik:Prop:=OkF P w K mg base CX0 44 "counts_of" ["grammar", "counted"] (spP K 2 (pJ C_Grammar))
theorem w6 (z:Zs mg)(yv:ClsG K C_Grammar)(yH:ClsP K C_Parts)(yF:ql K mg "NOUGHT" (sh 0))(d:Yn K mg "counts_of" jv ["grammar", "counted"])(qi:V1 P w K mg base C_Grammar)(nr:iG P w K mg base C_Grammar C_Sums C_Parts)(WC:hZ P w K mg base C_Grammar C_Sums C_Parts)(J6:UV P w K mg base)(Jo:KW P w K mg base):ik P w K mg base C_Grammar:=by
 refine Yz d jB rfl fun f cdv A outer s H E hr ds r hC B hB=>?_;obtain⟨h,rs,s',cq,rfl,rfl,o,ok⟩:=hC;have big':big=67108864:=rfl;have n5:=o.n5;refine ZL (i:=2) (SX:=yi jv) (XN:=["grammar", "counted", "counts", "row", "many", "parts"]) (N:=["rule"]) (nt:=1) (caps:=[]) (pre:=(fun i=>(rs.take i).map fun _=>sh 0))  ⟨rfl,by decide +kernel,by decide +kernel,by decide +kernel,rfl,by decide +kernel⟩ jB.nd rfl (.inl rfl)  (qW (PF3.p (Jh (ds:=yG rs) qi yv.c (hr.mono (by decide)) (pq 0 rfl) QU ?_))) ?_ ?_ ?_ ?_
 ·exact⟨h,rs,rfl,rfl⟩
 ·intro i hi;rw[yf,y6,sizeLine_eq];omega
 ·rfl
 ·intro c i d hd;obtain⟨r,hr',rfl⟩:=qF hd;refine⟨_,(yT (i:=0) (show List.Nodup (α:=Str) ["rule"] by decide +kernel) rfl (.inl rfl)),(Sub.set rfl),.inl ⟨sh 0,Qq,(YB yF rfl),?_⟩⟩;dsimp only;rw[Yo hr',yr];rfl
 rw[YX,yK];refine jP PassesOwn.never rfl (qW (pq 1 rfl)) (fun i Γ Ω=>∃ x3 x4 x5,Γ=[some (gD C_Grammar h rs),some (.lst (ke (Js cq))),some (U5 rs (cq.take i)),x3,x4,x5]/\Ω=[]) ⟨_,_,_,rfl,rfl⟩ ?_ ?_
 ·rintro i d Γ Ω hd ⟨x3,x4,x5,rfl,rfl⟩;obtain⟨p,hp,rfl⟩:=U4 hd;have hi:i<cq.length:=(yh.mp hp).1;obtain⟨m1,m2⟩:=ok.2 p (yq hp);have l5:=ok.1;refine⟨_,(Z1 rfl (qr (yT (i:=3) jB.nd rfl (.inl rfl)) (qr (yT (i:=4) jB.nd rfl (.inr rfl)) JN))),?_⟩;refine JP (i:=5) jB.nd rfl (.inr rfl) (lS nr (hr.mono (by decide)) rfl (yb (pq 0 rfl) (yb (pq 3 rfl) yn)) ⟨h,rs,s',p.1,rfl,o,m1⟩ fun r hC=>?_);obtain⟨hd',rfl⟩:=hC h rs (b0 p.1) rfl;unfold U5;refine ZL (i:=2) (SX:=yi jv) (XN:=["grammar", "counted", "counts", "row", "many", "parts"]) (N:=["number", "count", "many", "parts"]) (nt:=2) (caps:=[4,5]) (pre:=(fun k=>(rs.take k).map fun q=>zi (Q1 (cq.take (i+1)) q)))  ⟨rfl,by decide +kernel,by decide +kernel,by decide +kernel,rfl,by decide +kernel⟩ jB.nd rfl (.inl rfl)  (fk z.enumerate rfl (pq 2 rfl)) ?_ ?_ ?_ ?_
  ·intro k hk;rw[yf,y6,sizeLine_eq];omega
  ·rfl
  ·intro c k d hd;obtain⟨q,hq,rfl⟩:=gy hd;have mq:=yq hq;have cl:=Xv ok (q:=q) i (by omega);have u0:(0:Rat)<=(if b0 q=b0 p.1 then 1 else 0)/\Sz 1 (if b0 q=b0 p.1 then 1 else 0):=by
    split
    ·exact⟨by decide,VA⟩
    ·exact⟨by decide,V4⟩
   have c0:Sz 10 ((Q1 (cq.take i) q:Nat):Rat):=vi (by omega) (by decide)
   have p0:Sz 10 ((p.2:Nat):Rat):=vi (by omega) (by decide)
   refine⟨_,(Z1 rfl (qr (yT (i:=0) (show List.Nodup (α:=Str) ["number", "count", "many", "parts"] by decide +kernel) rfl (.inl rfl)) (qr (yT (i:=1) (show List.Nodup (α:=Str) ["number", "count", "many", "parts"] by decide +kernel) rfl (.inl rfl)) JN))),(Sub.trans (Sub.set rfl) (Sub.set rfl)),.inl ⟨zi (Q1 (cq.take (i+1)) q),Qq,(yV (d:=zi (Q1 (cq.take (i+1)) q)) J6 (hr.mono (by decide)) rfl (yb (pq 1 rfl) (yb (yV (d:=sh ((p.2:Rat)*(if b0 q=b0 p.1 then 1 else 0))) Jo (hr.mono (by decide)) rfl (yb (QE (yb (pqc 2 rfl) (yb yB yn))) (yb (ZB (d:=sh (if b0 q=b0 p.1 then 1 else 0)) WC yH.c (hr.mono (by decide)) (pqc 3 rfl) uR (yb (pq 0 rfl) yn) ?_) yn)) ?_) yn)) ?_),?_⟩⟩
   ·exact⟨h,rs,s',p.1,hd',k,q,rfl,o,m1,hq,rfl⟩
   ·exact⟨(p.2:Rat),if b0 q=b0 p.1 then 1 else 0,10,1,rfl,rfl,v5,u0.1,p0,u0.2,by omega,by omega,trivial⟩
   ·exact⟨((Q1 (cq.take i) q:Nat):Rat),(p.2:Rat)*(if b0 q=b0 p.1 then 1 else 0),10,11,rfl,(by unfold zi;rw[gk hp]),v5,zr v5 u0.1,c0,v4 p0 u0.2,by omega,by omega,trivial⟩
   ·dsimp only;rw[Yo hq,yr];rfl
  rw[iY,yf,yK];exact Yb ⟨_,_,_,rfl,rfl⟩
 ·rintro Γ Ω ⟨x3,x4,x5,rfl,rfl⟩;rw[uA,show(Js cq).length=cq.length from yf _,yK];refine Y8 (pq 2 rfl) ?_;rfl
variable (P w K mg base) in
abbrev fU:Prop:=OkF P w K mg base CX0 35 "sums_by_head" ["rules", "counts"] (spP K 2 oS)
theorem Kb (z:Zs mg)(yF:ql K mg "NOUGHT" (sh 0))(d:Yn K mg "sums_by_head" jp ["rules", "counts"])(J6:UV P w K mg base):fU P w K mg base:=by
 refine Yz d jZ rfl fun f cdv A outer s H E hr ds r hC B hB=>?_;obtain⟨h,rs,ns,rfl,rfl,hh,hl,n1,n5,n45⟩:=hC;have big':big=67108864:=rfl;refine JP (i:=2) jZ.nd rfl (.inl rfl) (wv fun l=>?_);refine jP PassesOwn.never rfl (ck z.zip rfl (pq 0 rfl) (pq 1 rfl)) (fun i Γ Ω=>∃ x3 x4,Γ=[some (.lst (yG rs)),some (.lst (ns.map zi)),some (.raw (.ref l)),x3,x4]/\Ω=[(l,oDk K (kH h i) (vH ns i))]) ⟨_,_,rfl,rfl⟩ ?_ ?_
 ·rintro i d Γ Ω hd ⟨x3,x4,rfl,rfl⟩;obtain⟨r,n,hr',hn,rfl⟩:=cP hd;have eh:=hh r (yq hr');have nb:=n45 n (yq hn);have hi:i<ns.length:=(yh.mp hn).1;have sb:=ay n45 i (by omega);have zn:Sz 10 ((n:Nat):Rat):=vi (by omega) (by decide)
  have zs:Sz 10 (((ns.take i).sum:Nat):Rat):=vi (by omega) (by decide)
  refine⟨_,(Z1 rfl (qr (yT (i:=3) jZ.nd rfl (.inl rfl)) (qr (yT (i:=4) jZ.nd rfl (.inl rfl)) JN))),?_⟩;refine wN (l:=l) (k:=qp h) hr.units (pq 2 rfl) (j3 (Yg (pq 3 rfl) yB rfl) (by rw[eh];rfl)) (eU J6 (hr.mono (by decide)) rfl (ZM (i9 (k:=qp h) (ks:=kH h i) (ds:=vH ns i) hr.units (pq 2 rfl) yp (j3 (Yg (pq 3 rfl) yB rfl) (by rw[eh];rfl)) (YB yF rfl) (ZH (yb (pq 4 rfl) yn) ⟨sh ((((ns.take i).sum:Nat):Rat)+((n:Nat):Rat)),⟨(((ns.take i).sum:Nat):Rat),((n:Nat):Rat),10,10,by rw[rT];rfl,rfl,v5,v5,zs,zn,by omega,by omega,trivial⟩,rfl,kH h i,vH ns i,[],List.Perm.refl _,oW,?_⟩))));rw[pD,oi hn];exact Yb ⟨_,_,rfl,rfl⟩
 ·rintro Γ Ω ⟨x3,x4,rfl,rfl⟩;rw[dj hl];refine wF (i:=2) rfl ?_;refine Y8 (pq 2 rfl) ?_;unfold kH vH;rw[yd (by omega),yd (by omega),yK]
variable (P w K mg base C_Grammar) in
abbrev fq:Prop:=OkF P w K mg base CX0 46 "learnt" ["grammar", "counted"] (spP K 2 (mz C_Grammar))
theorem dL (z:Zs mg)(yv:ClsG K C_Grammar)(yF:ql K mg "NOUGHT" (sh 0))(d:Yn K mg "learnt" vp ["grammar", "counted"])(qi:V1 P w K mg base C_Grammar)(xS:ik P w K mg base C_Grammar)(uJ:fU P w K mg base)(vB:bE P w K mg base)(Q4:Wh P w K mg base C_Grammar)(vQ:Xw P w K mg base C_Grammar):fq P w K mg base C_Grammar:=by
 refine Yz d JC rfl fun f cdv A outer s H E hr ds r hC B hB=>?_;obtain⟨h,rs,s',cq,rfl,rfl,o,ok,t0,gv⟩:=hC;have big':big=67108864:=rfl;have n5:=o.n5;have l5:=ok.1;have cb:∀ q,Q1 cq q<=45:=fun q=>by have:=Xv ok (q:=q) cq.length (yo _);rw[yK] at this;omega
 refine YC (i:=2) JC.nd rfl (.inl rfl) (PF3.p (Jh (ds:=yG rs) qi yv.c (hr.mono (by decide)) (pq 0 rfl) QU ?_)) ?_
 ·exact⟨h,rs,rfl,rfl⟩
 refine YC (i:=3) JC.nd rfl (.inl rfl) (yV (d:=U5 rs cq) xS (hr.mono (by decide)) rfl (yb (pq 0 rfl) (yb (pq 1 rfl) yn)) ?_) ?_
 ·exact⟨h,rs,s',cq,rfl,rfl,o,ok⟩
 refine YC (i:=4) JC.nd rfl (.inl rfl) (yV (d:=.dk [qp h] [zi (zE rs cq)]) uJ (hr.mono (by decide)) rfl (yb (pq 2 rfl) (yb (pq 3 rfl) yn)) ?_) ?_
 ·refine⟨h,rs,rs.map (Q1 cq),by unfold U5;rw[Yx];rfl,rfl,fun r hr'=>(o.r r hr').1,by rw[yf],by rw[yf];exact o.n1,by rw[yf];exact n5,fun n hn=>?_⟩;obtain⟨q,_,rfl⟩:=yx.mp hn;exact cb q
 have tb':zE rs cq<=45*5:=by
  have:=ay (ns:=rs.map (Q1 cq)) (fun n hn=>by obtain⟨q,_,rfl⟩:=yx.mp hn;exact cb q) _ (yo _);rw[yK,yf] at this;unfold zE;omega
 have zt:Sz 10 ((zE rs cq:Nat):Rat):=vi (by omega) (by decide)
 have tp:(0:Rat)<((zE rs cq:Nat):Rat):=by exact_mod_cast t0
 refine KH (i:=5) JC.nd rfl (.inl rfl) (ZD yn) fun l=>?_;unfold U5;refine jP PassesOwn.never rfl (ck z.zip rfl (pq 2 rfl) (pq 3 rfl)) (fun i Γ Ω=>∃ x6 x7,Γ=[some (gD C_Grammar h rs),some (.lst (ke (Js cq))),some (.lst (yG rs)),some (.lst (rs.map fun q=>zi (Q1 cq q))),some (.dk [qp h] [zi (zE rs cq)]),some (.raw (.ref l)),x6,x7]/\Ω=[(l,Q3 K (yG (fR h (zE rs cq) cq (rs.take i))))]) ⟨_,_,rfl,rfl⟩ ?_ ?_
 ·rintro i d Γ Ω hd ⟨x6,x7,rfl,rfl⟩;obtain⟨q,hq,rfl⟩:=dB hd;have mq:=yq hq;have eh:=(o.r q mq).1;have hi:i<rs.length:=(yh.mp hq).1;have zc:Sz 10 ((Q1 cq q:Nat):Rat):=vi (by have:=cb q;omega) (by decide)
  refine⟨_,(Z1 rfl (qr (yT (i:=6) JC.nd rfl (.inl rfl)) (qr (yT (i:=7) JC.nd rfl (.inl rfl)) JN))),?_⟩;refine JX (k:=false) (qm (At (af hr.units (kI (k:=qp h) (d:=zi (zE rs cq)) hr.units (pq 4 rfl) (j3 (Yg (pq 6 rfl) yB rfl) (by rw[eh];rfl)) ZA) (YB yF rfl) j5 j4) ?_)) (fun hk=>nomatch hk) fun _=>?_
  ·show Y2 (sh _) (sh 0)=false;rw[jR];exact yC (by grind)
  refine JX (qm (Xi hr.units (pq 7 rfl) (YB yF rfl) j5 j4)) ?_ ?_
  ·intro hk;have hk':Y2 (zi (Q1 cq q)) (sh 0)=false:=by simpa using hk
   have hc:Q1 cq q≠0:=fun z=>by
    unfold zi at hk';rw[z,jR] at hk';simp at hk'
   refine vo (i:=5) rfl (.inl rfl) rfl (d:=Qo (h,q.2.1,(Q1 cq q:Rat) / (zE rs cq:Rat))) (QE (yb (j3 (Yg (pq 6 rfl) yB rfl) (by rw[eh])) (yb (Yg (pq 6 rfl) yB rfl) (yb (yV (d:=sh ((Q1 cq q:Rat) / (zE rs cq:Rat))) vB (hr.mono (by decide)) rfl (yb (pq 7 rfl) (yb (kI (k:=qp h) (d:=zi (zE rs cq)) hr.units (pq 4 rfl) (j3 (Yg (pq 6 rfl) yB rfl) (by rw[eh];rfl)) ZA) yn)) ?_) yn)))) ?_ ?_
   ·exact⟨((Q1 cq q:Nat):Rat),((zE rs cq:Nat):Rat),10,10,rfl,rfl,v5,v5,zc,zt,by omega,by omega,tp⟩
   ·have:=oV (h:=h) (t:=zE rs cq) (cq:=cq) (rs:=rs.take i);rw[y6] at this;rw[YX,sizeLine_eq];omega
   ·refine Yb (Yb (Yb ⟨_,_,rfl,?_⟩));rw[Yo hq,o6 hc];unfold yG;rw[yr];rfl
  ·intro hk;have hk':Y2 (zi (Q1 cq q)) (sh 0)=true:=by simpa using hk
   have hc:Q1 cq q=0:=by
    unfold zi at hk';rw[jR] at hk';have:=of_decide_eq_true hk'
    exact_mod_cast this
   refine Yb (Yb (Yb ⟨_,_,rfl,?_⟩));rw[Yo hq,tE hc]
 ·rintro Γ Ω ⟨x6,x7,rfl,rfl⟩;rw[cT,yK];refine zj (i:=5) rfl ?_;refine Y8 (ue (r:=(gF,gDs h (fR h (zE rs cq) cq rs))) vQ (hr.mono (by decide)) rfl (yb (vL (d:=.str h) Q4 yv.c (hr.mono (by decide)) (pq 0 rfl) JA ?_) (yb (pq 5 rfl) yn)) ?_) ?_
  ·exact⟨h,rs,rfl,rfl⟩
  ·exact⟨h,_,rfl,rfl,gv⟩
  rfl
end
end Law
namespace L3
open PySem PySem.Spec PySem.Calls PyProof.Rows L2
section
variable {hs ws:List Str}{rs:List yL}{st:Str}
end
theorem eC {r:yL}:pln (Qo r)=true:=by
 unfold Qo;rw[pln,va,va,va,fx,pI];rfl
theorem KM {rs:List yL}:pln (.lst (yG rs))=true:=by
 rw[mM];exact KU fun d hd=>by
  unfold yG at hd;obtain⟨r,_,rfl⟩:=yx.mp hd;exact eC
theorem iL {r:yL}:dep (Qo r)<=2:=by
 unfold Qo;rw[dep];refine Nat.succ_le_succ (Kh fun d hd=>?_);simp only[yP,qc,or_false] at hd;rcases hd with rfl|rfl|rfl
 ·exact qU _
 ·exact gh
 ·exact mQ
theorem XC {rs:List yL}:dep (.lst (yG rs))<=60:=by
 rw[dep];refine Nat.succ_le_succ (Kh fun d hd=>?_);unfold yG at hd;obtain⟨r,_,rfl⟩:=yx.mp hd;have:=iL (r:=r);omega
theorem XF {rs:List yL}:kin (.lst (yG rs)) (.lst (yG rs))=true:=xK KM
def rK (c:Int)(m:Nat)(g:Nat->Rat)(k:Nat):yL:=(Qa c m,[Qa c k],g k)
def qk (K:List Nat)(f:Nat->Nat)(k:Nat):Rat:=(f k:Rat) / (((K.map f).sum:Nat):Rat)
def RK (c:Int)(m:Nat)(K:List Nat)(f:Nat->Nat):List yL:=K.map (rK c m (qk K f))
structure KOk (m:Nat)(K:List Nat)(f:Nat->Nat):Prop where
 m5:m<=5
 nd:K.Nodup
 lt:∀ k∈K,k<m
 n1:1<=K.length
 n5:K.length<=5
 f1:∀ k∈K,1<=f k
 f40:∀ k∈K,f k<=40
theorem Kx {f:Nat->Nat}{b:Nat}:∀ {K:List Nat},(∀ k∈K,f k<=b)->(K.map f).sum<=b*K.length
 |[],_=>yo _
 |k::K,h=>by
  have a:=Kx (K:=K) fun j hj=>h j (yc _ hj);have c:=h k (by simp);rw[yy,qA,yI,Nat.mul_add];omega
theorem aB {f:Nat->Nat}{K:List Nat}{k:Nat}(h:k∈K):f k<=(K.map f).sum:=by
 induction K with
 |nil=>cases h
 |cons j K ih=>
  rw[yy,qA];rcases yP.mp h with e|e
  ·rw[e];omega
  ·have:=ih e;omega
section
variable {c:Int}{m:Nat}{K:List Nat}{f:Nat->Nat}
theorem KOk.sum1 (o:KOk m K f):1<=(K.map f).sum:=by
 obtain⟨k,hk⟩:∃ k,k∈K:=by
  have:=o.n1;cases K with
  |nil=>simp at this
  |cons k K=>exact⟨k,by simp⟩
 exact Ye (o.f1 k hk) (aB hk)
theorem KOk.sum200 (o:KOk m K f):(K.map f).sum<=200:=by
 have:=Kx (f:=f) (b:=40) o.f40;have:=o.n5;omega
theorem Ko (o:KOk m K f){k:Nat}(hk:k∈K):0<qk K f k/\Sz 20 (qk K f k):=by
 have t1:=o.sum1;have t2:=o.sum200;have f1:=o.f1 k hk;have f2:=o.f40 k hk;have tp:(0:Rat)<(((K.map f).sum:Nat):Rat):=by exact_mod_cast t1
 have fp:(0:Rat)<((f k:Nat):Rat):=by exact_mod_cast f1
 refine⟨?_,(aL (m:=10) (n:=10) (vi (by omega) (by decide)) (vi (by omega) (by decide)) tp).mono (by decide)⟩;unfold qk;rw[Qh];exact Rat.mul_pos fp (Rat.inv_pos.mpr tp)
theorem xH (m5:m<=5)(nd:K.Nodup)(lt:∀ k∈K,k<m):(K.map (Qa c)).Nodup:=by
 rw[qd] at nd ⊢;rw[List.pairwise_map];refine List.Pairwise.imp_of_mem (fun {a b} ha hb n e=>n (wO ?_ ?_ e)) nd
 ·have:=lt a ha;omega
 ·have:=lt b hb;omega
theorem zS (o:KOk m K f):One (Qa c m) (RK c m K f) 20 where
 n1:=by unfold RK;rw[yf];exact o.n1
 n5:=by unfold RK;rw[yf];exact o.n5
 r:=fun r hr=>by
  obtain⟨k,hk,rfl⟩:=yx.mp hr;refine⟨rfl,Qa c k,rfl,fun e=>?_⟩;have l:=o.lt k hk;have:=o.m5;have:=wO (by omega) (by omega) e;omega
 nd:=by
  have e:(RK c m K f).map b0=K.map (Qa c):=by unfold RK;rw[Yx];rfl
  rw[e];exact xH o.m5 o.nd o.lt
 q:=fun r hr=>by
  obtain⟨k,hk,rfl⟩:=yx.mp hr;exact Ko o hk
 s1:=by decide
 s2:=by decide
theorem WP {T:Nat}:∀ {K:List Nat},qH (K.map fun k=>(f k:Rat) / (T:Rat))=(((K.map f).sum:Nat):Rat) / (T:Rat)
 |[]=>by show(0:Rat)=((0:Nat):Rat) / (T:Rat);rw[Qh];grind
 |k::K=>by
  have:=WP (T:=T) (K:=K);show(f k:Rat) / (T:Rat)+qH (K.map fun k=>(f k:Rat) / (T:Rat))=(((k::K).map f).sum:Rat) / (T:Rat);rw[this,yy,qA,Qh,Qh,Qh];push_cast;grind
theorem W9 {g:Nat->Rat}:∀ {K:List Nat},zF (Qa c m) (K.map (rK c m g))=qH (K.map g)
 |[]=>rfl
 |k::K=>by
  have:=W9 (g:=g) (K:=K);rw[yy,aG,this];show(if Qa c m=Qa c m then g k else 0)+_=_;rw[ye rfl];rfl
theorem b6 (o:KOk m K f):qH (K.map (qk K f))=1:=by
 have h:K.map (qk K f)=K.map fun k=>(f k:Rat) / (((K.map f).sum:Nat):Rat):=rfl;rw[h,WP];have:=wJ o.sum1;rw[Qh];grind
theorem eW (o:KOk m K f):GV (Qa c m) (RK c m K f) where
 l1:=(zS (c:=c) o).n1
 l2:=Ye (zS (c:=c) o).n5 (by decide)
 ok:=fun r hr=>by
  obtain⟨k,hk,rfl⟩:=yx.mp hr;exact⟨gf c m,yo _,YI rfl,fun x hx=>by rw[yD.mp hx];exact gf c k,(Ko o hk).1⟩
 nd:=by
  have n:=xH (c:=c) o.m5 o.nd o.lt;unfold RK;rw[Yx,qd,List.pairwise_map];rw[qd,List.pairwise_map] at n;refine n.imp fun {a b} h e=>h ?_;have:=(Prod.mk.inj e).2;simpa [rK] using this
 st:=by rw[j6 (zS o)];simp
 one:=fun h hh=>by
  rw[j6 (zS o),yD] at hh;rw[hh];unfold RK;rw[W9];exact b6 o
 sz:=fun r hr=>((zS o).q r hr).2.mono (by decide)
end
def cqK (c:Int)(m:Nat)(g:Nat->Rat)(K:List Nat)(ct:Nat->Nat):Cq:=K.map fun k=>(rK c m g k,ct k)
def pos (ct:Nat->Nat)(m:Nat):List Nat:=(List.range m).filter fun k=>decide (0<ct k)
section
variable {c:Int}{m:Nat}{g g':Nat->Rat}{ct:Nat->Nat}
theorem UK {K:List Nat}:Js (cqK c m g K ct)=Js (cqK c m g' K ct):=by
 unfold Js cqK;rw[Yx,Yx];rfl
theorem fG {j:Nat}(m5:m<=5)(hj:j<m):∀ {K:List Nat},K.Nodup->(∀ k∈K,k<m)->Q1 (cqK c m g K ct) (rK c m g' j)=if j∈K then ct j else 0
 |[],_,_=>rfl
 |k::K,nd,lt=>by
  have ih:=fG (K:=K) m5 hj (Yc.mp nd).2 fun i hi=>lt i (yc _ hi);unfold Q1 cqK at ih ⊢;rw[yy,yy,qA,ih];show(if Qa c j=Qa c k then ct k else 0)+_=_;have lk:=lt k (by simp);by_cases e:j=k
  ·subst e;rw[ye rfl,yd (Yc.mp nd).1,ye (by simp)];rfl
  ·rw[yd fun z=>e (wO (by omega) (by omega) z),YV];by_cases e2:j∈K
   ·rw[ye e2,ye (yc _ e2)]
   ·rw[yd e2,yd (by simp[e,e2])]
theorem Xs:(pos ct m).Nodup:=List.Nodup.sublist List.filter_sublist List.nodup_range
theorem Vb:∀ k∈pos ct m,k<m:=fun k hk=>by
 have:=(Yj.mp hk).1;simpa using this
theorem b8 {j:Nat}(hj:j<m):(if j∈pos ct m then ct j else 0)=ct j:=by
 by_cases e:0<ct j
 ·have hm:j∈pos ct m:=by
   unfold pos;exact Yj.mpr ⟨by simpa using hj,by simpa using e⟩
  rw[ye hm]
 ·rw[yd fun z=>e (by simpa using (Yj.mp z).2)];omega
theorem VD:∀ {l:List Nat},((l.filter fun k=>decide (0<ct k)).map ct).sum=(l.map ct).sum
 |[]=>rfl
 |k::l=>by
  have ih:=VD (l:=l);by_cases e:0<ct k
  ·rw[Yl (by simpa using e),yy,yy,qA,qA,ih]
  ·rw[Yp (by simpa using e),yy,qA,ih];omega
theorem xI (m5:m<=5){p:Nat->Nat}:fR (Qa c m) (zE (RK c m (List.range m) p) (cqK c m (qk (List.range m) p) (pos ct m) ct)) (cqK c m (qk (List.range m) p) (pos ct m) ct) (RK c m (List.range m) p)=RK c m (pos ct m) ct:=by
 have cn:∀ k∈List.range m,Q1 (cqK c m (qk (List.range m) p) (pos ct m) ct) (rK c m (qk (List.range m) p) k)=ct k:=fun k hk=>by
  have hk:k<m:=by simpa using hk
  rw[fG m5 hk Xs Vb,b8 hk]
 have tt:zE (RK c m (List.range m) p) (cqK c m (qk (List.range m) p) (pos ct m) ct)=((pos ct m).map ct).sum:=by
  unfold zE RK;rw[Yx];have:(List.range m).map (Q1 (cqK c m (qk (List.range m) p) (pos ct m) ct) ∘ rK c m (qk (List.range m) p))=(List.range m).map ct:=Qy fun k hk=>cn k hk;rw[this];exact VD.symm
 unfold fR;rw[tt];unfold RK;rw[List.filter_map,Yx];have ff:(List.range m).filter ((fun q=>decide (Q1 (cqK c m (qk (List.range m) p) (pos ct m) ct) q≠0)) ∘ rK c m (qk (List.range m) p))=pos ct m:=by
  refine(List.filter_congr (q:=fun k=>decide (0<ct k)) fun k hk=>?_:_=(List.range m).filter fun k=>decide (0<ct k));show decide (Q1 (cqK c m (qk (List.range m) p) (pos ct m) ct) (rK c m (qk (List.range m) p) k)≠0)=decide (0<ct k);rw[cn k hk];exact decide_eq_decide.mpr (by omega)
 rw[ff];refine Qy fun k hk=>?_;show(Qa c m,[Qa c k],((Q1 _ _:Nat):Rat) / _)=(Qa c m,[Qa c k],qk (pos ct m) ct k)
 rw[cn k (Yj.mp hk).1];rfl
theorem iT {q w:Rat}:∀ {n:Nat},pwQ q w n=q*pwL w n
 |0=>by show q=q*1;grind
 |n+1=>by
  have:=iT (q:=q) (w:=w) (n:=n);show pwQ q w n*w=q*(w*pwL w n);rw[this];grind
theorem Uu:∀ {K:List Nat} {q:Rat},(cqK c m g K ct).foldl (fun q p=>pwQ q p.1.2.2 p.2) q=q*Kt (K.map fun k=>(ct k,g k))
 |[],q=>by show q=q*1;grind
 |k::K,q=>by
  have:=Uu (K:=K) (q:=pwQ q (g k) (ct k));show(cqK c m g K ct).foldl (fun q p=>pwQ q p.1.2.2 p.2) (pwQ q (g k) (ct k))=q*(pwL (g k) (ct k)*Kt (K.map fun k=>(ct k,g k)));rw[this,iT];grind
theorem WV {K:List Nat}:zN (cqK c m g K ct)=Kt (K.map fun k=>(ct k,g k)):=by
 unfold zN;rw[Uu];grind
theorem Vt {p:Nat->Bool}:∀ {l:List Nat},(∀ k∈l,0<=g k)->qH ((l.filter p).map g)<=qH (l.map g)
 |[],_=>Rat.le_refl
 |k::l,h=>by
  have ih:=Vt (p:=p) (l:=l) fun j hj=>h j (yc _ hj);have k0:=h k (by simp);have e:qH ((k::l).map g)=g k+qH (l.map g):=rfl;by_cases z:p k=true
  ·rw[Yl z];have e':qH ((k::l.filter p).map g)=g k+qH ((l.filter p).map g):=rfl;rw[e,e'];grind
  ·rw[Yp z,e];grind
theorem hV {o:Nat->Nat}(ko:KOk m (List.range m) o)(kc:KOk m (pos ct m) ct):zN (cqK c m (qk (List.range m) o) (pos ct m) ct)<=zN (cqK c m (qk (pos ct m) ct) (pos ct m) ct):=by
 rw[WV,WV];have g0:=sJ (cs:=(pos ct m).map fun k=>(ct k,qk (List.range m) o k)) (N:=((pos ct m).map ct).sum) kc.sum1 (by unfold lp;rw[Yx];rfl) (fun p hp=>by
  obtain⟨k,hk,rfl⟩:=yx.mp hp;exact⟨kc.f1 k hk,Yu (Ko ko (by simpa using Vb k hk)).1⟩) (by
  unfold mE;rw[Yx];show qH ((pos ct m).map (qk (List.range m) o))<=1;rw[←b6 ko];exact Vt fun k hk=>Yu (Ko ko hk).1)
 refine Rat.le_trans g0 ?_;unfold ga Kt;rw[Yx,Yx];exact Rat.le_refl
end
theorem vg {f:Nat->Nat}:∀ {l:List Nat},(l.map fun k=>((f k:Nat):Int)).sum=(((l.map f).sum:Nat):Int)
 |[]=>rfl
 |k::l=>by
  rw[yy,qA,vg (l:=l),yy,qA];push_cast;rfl
theorem W5 {K:List Nat}{f:Nat->Nat}{k:Nat}:Rat.divInt ((f k:Nat):Int) (((K.map f).sum:Nat):Int)=qk K f k:=by
 unfold qk;rw[Rat.divInt_eq_div,Rat.intCast_natCast,Rat.intCast_natCast]
def Vx (m:Nat)(f:Nat->Nat):List D:=((List.range m).map fun k=>((f k:Nat):Int)).map D.int
theorem Vj {m:Nat}{f:Nat->Nat}:(tb m fun k=>D.int ((f k:Nat):Int))=Vx m f:=by
 unfold Vx tb;rw[Yx];rfl
theorem Zo {m i:Nat}{f:Nat->Nat}(h:i<m):atI (Vx m f) (i:Int)=some (.int ((f i:Nat):Int)):=by
 rw[←Vj];exact zU h
theorem cG {m i:Nat}{f:Nat->Nat}{d:D}(h:(Vx m f)[i]?=some d):i<m/\d=.int ((f i:Nat):Int):=by
 unfold Vx at h;rw[yl,yl] at h;by_cases e:i<m
 ·rw[qO e] at h;exact⟨e,(Option.some.inj h).symm⟩
 ·rw[List.getElem?_eq_none (by simp;omega)] at h;cases h
theorem UR {m:Nat}{f:Nat->Nat}:(Vx m f).length=m:=by unfold Vx;simp
theorem JW {c:Int}{m i:Nat}(h:i<m):atI (Yi ((List.range m).map (Qa c))) (i:Int)=some (.str (Qa c i)):=by
 refine Ki ?_;unfold Yi;rw[yl,yl,qO h];rfl
def fg:List D->D->Prop:=fun ds d=>∃ (m:Nat) (f:Nat->Nat),ds=[.lst (Vx m f)]/\d=.lst (tb m fun k=>sh (qk (List.range m) f k))/\1<=((List.range m).map f).sum/\m<=5
theorem U7 {c:Int}{m:Nat}{f:Nat->Nat}:(tb m fun k=>Qo (rK c m (qk (List.range m) f) k))=yG (RK c m (List.range m) f):=by
 unfold yG RK tb;rw[Yx];rfl
theorem WM {ct:Nat->Nat}{i:Nat}(h:0<ct i):pos ct (i+1)=pos ct i++[i]:=by
 unfold pos;rw[QA,Yy,Yl (by simpa using h)];rfl
theorem xj {ct:Nat->Nat}{i:Nat}(h:¬ 0<ct i):pos ct (i+1)=pos ct i:=by
 unfold pos;rw[QA,Yy,Yp (by simpa using h)];simp
theorem Vo {ct:Nat->Nat}{i:Nat}:(pos ct i).length<=i:=by
 have:(pos ct i).length<=(List.range i).length:=Ym _ _
 rwa [qZ] at this
theorem pS {α:Type}{m j:Nat}{f:Nat->α}{x:α}:(tb m f).set j x=tb m fun k=>if k=j then x else f k:=by
 refine qe fun i=>?_;rw[Y3];by_cases hi:i<m
 ·rw[ja hi,ja hi];by_cases e:j=i
  ·rw[ye e,ye (by rw[Yk,e];exact hi),ye e.symm]
  ·rw[yd e,yd fun z=>e z.symm]
 ·rw[List.getElem?_eq_none (by rw[Yk];omega),List.getElem?_eq_none (by rw[Yk];omega)];by_cases e:j=i
  ·rw[ye e,yd (by rw[Yk,e];exact hi)]
  ·rw[yd e]
theorem bI {m:Nat}{f:Nat->Nat}(m2:2<=m)(m5:m<=5)(h:∀ k,1<=f k/\f k<=40):KOk m (List.range m) f:=
 ⟨m5,List.nodup_range,fun k hk=>by simpa using hk,by rw[qZ];omega,by rw[qZ];exact m5,fun k _=>(h k).1,fun k _=>(h k).2⟩
theorem tG {m j:Nat}{ct:Nat->Nat}(m5:m<=5)(hj:j<m)(h1:1<=ct j)(h:∀ k,ct k<=9):KOk m (pos ct m) ct:=
 ⟨m5,Xs,Vb,List.length_pos_of_mem (a:=j) (by unfold pos;exact Yj.mpr ⟨by simpa using hj,yO h1⟩),Ye Vo m5,fun k hk=>by
  unfold pos at hk;exact of_decide_eq_true (Yj.mp hk).2,fun k _=>Ye (h k) (by decide)⟩
theorem WO {c:Int}{m:Nat}{g:Nat->Rat}{ct:Nat->Nat}{K:List Nat}{f:Nat->Nat}(m5:m<=5)(h:∀ k,ct k<=9)(hK:∀ k∈pos ct m,k∈K)(e:g=qk K f):cF (RK c m K f) (cqK c m g (pos ct m) ct):=by
 refine⟨by unfold cqK;rw[yf];exact Ye Vo m5,fun p hp=>?_⟩;obtain⟨k,hk,rfl⟩:=yx.mp hp;refine⟨?_,h k⟩;subst e;exact yx.mpr ⟨k,hK k hk,rfl⟩
theorem l8 {c:Int}{m:Nat}{ct p:Nat->Nat}(m5:m<=5)(kc:KOk m (pos ct m) ct):0<zE (RK c m (List.range m) p) (cqK c m (qk (List.range m) p) (pos ct m) ct):=by
 have cn:∀ k∈List.range m,Q1 (cqK c m (qk (List.range m) p) (pos ct m) ct) (rK c m (qk (List.range m) p) k)=ct k:=fun k hk=>by
  have hk:k<m:=by simpa using hk
  rw[fG m5 hk Xs Vb,b8 hk]
 unfold zE RK;rw[Yx];have:(List.range m).map (Q1 (cqK c m (qk (List.range m) p) (pos ct m) ct) ∘ rK c m (qk (List.range m) p))=(List.range m).map ct:=Qy fun k hk=>cn k hk;rw[this,←VD];exact kc.sum1
end L3
namespace Law
open PySem L2 L3
section
variable {P:Program}{w:World}{K:W.Frag}{mg:Str->Option Value}{base:Heap}{C_Grammar C_Sums C_Parts:Addr}
variable (P w K mg base) in
abbrev gG:Prop:=OkF P w K mg base CX0 2 "_law_cell_at" ["_law_script", "_law_k"] (spP K 2 pC)
theorem ud (z:Zs mg)(d:Yn K mg "_law_cell_at" jT ["_law_script", "_law_k"])  : gG P w K mg base:=by
 refine Yz d KI rfl fun f cdv A outer s H E hr ds r hC B hB=>?_;obtain⟨ns,k,rfl,rfl⟩:=hC;refine JX (qm (cw (pq 1 rfl) (rO z.len rfl (pq 0 rfl)))) ?_ ?_
 ·intro hk;have hk:=of_decide_eq_true hk;refine Y8 (tf (n:=ns.getD k 0) (pq 0 rfl) (pq 1 rfl) ?_) ?_
  ·have hk':k<ns.length:=by omega
   show atI ns (k:Int)=some (ns.getD k 0);unfold atI ixN;rw[ye (by omega),ye (by omega)];show ns[((k:Int)).toNat]?=_;rw[Qe,yM,ym hk'];rfl
  ·rfl
 ·intro hk;have hk:=of_decide_eq_false hk;refine Yb ?_;refine Y8 yB ?_;show D.int 0=D.int (ns.getD k 0);rw[yM,yt.mpr (by omega)];rfl
variable (P w K mg base) in
abbrev ae:Prop:=OkF P w K mg base CX0 33 "_law_share" ["_law_top", "_law_bottom"] (spP K 2 aZ)
theorem w4 (ht:P.given.tree=none)(d:Yn K mg "_law_share" Jb ["_law_top", "_law_bottom"])  : ae P w K mg base:=by
 refine Yz d jO rfl fun f cdv A outer s H E hr ds r hC B hB=>?_;obtain⟨t,b,rfl,rfl,h1,h2⟩:=hC;have py:Pyl (cx0 P w K mg base ["_law_top", "_law_bottom", "_law_one", "_law_other", "_law_rest"] "_law_share" Jb f cdv A outer s H E):=(KN ht rfl rfl hr (yo _)).nox;have g0:=My.G_pos (a:=t) h2;refine YC (i:=2) jO.nd rfl (.inl rfl) (pq 0 rfl) ?_;refine YC (i:=3) jO.nd rfl (.inl rfl) (pq 1 rfl) ?_;refine wm PassesOwn.never (fun Γ _=>∃ (x y:Int) (z:Option D),Γ=[some (.int t),some (.int b),some (.int x),some (.int y),z]/\0<=x/\0<=y/\My.G x y=My.G t b) (fun Γ _=>match Γ with|[_,_,_,some (.int y),_]=>y.toNat|_=>0) ⟨t,b,none,rfl,h1,yz h2,rfl⟩ ?_;rintro Γ Ω ⟨x,y,z,rfl,hx,hy,hg⟩;refine⟨_,(qm (KO (pq 3 rfl) yB)),fun hk=>?_,fun hk=>?_⟩
 ·have hk:=of_decide_eq_true hk;refine YC (i:=4) jO.nd rfl (.inl rfl) (Z0 (pq 2 rfl) (pq 3 rfl) ?_) ?_
  ·exact hk
  refine YC (i:=2) jO.nd rfl (.inl rfl) (pq 3 rfl) ?_;refine YC (i:=3) jO.nd rfl (.inl rfl) (pq 4 rfl) ?_;refine Yb ⟨⟨y,x % y,_,rfl,hy,(JJ hk).1,(a9 hx hk).trans hg⟩,?_⟩;have:=JJ (a:=x) hk;show(x % y).toNat<y.toNat
  omega
 ·have hk:=of_decide_eq_false hk;have y0:y=0:=by omega
  subst y0;rw[My.G_end hx] at hg;subst hg;refine Y8 (QE (yb (jf py (pq 0 rfl) (pq 2 rfl) ?_) (yb (jf py (pq 1 rfl) (pq 2 rfl) ?_) yn))) ?_
  ·exact g0
  ·exact g0
  show D.tup [D.int (t / My.G t b),D.int (b / My.G t b)]=sh (Rat.divInt t b);unfold sh;rw[←My.num_share h2,←My.den_share h2,y7 _ (yz g0),y7 _ (yz g0)]
variable (P w K mg base) in
abbrev eV:Prop:=OkF P w K mg base CX0 33 "_law_symbols" ["_law_cell", "_law_many"] (spP K 2 cS)
theorem uk (ht:P.given.tree=none)(z:Zs mg)(d:Yn K mg "_law_symbols" Q7 ["_law_cell", "_law_many"])  : eV P w K mg base:=by
 refine Yz d YU rfl fun f cdv A outer s H E hr ds r hC B hB=>?_;obtain⟨c,m,rfl,rfl,hm⟩:=hC;have py:Pyl (cx0 P w K mg base ["_law_cell", "_law_many", "_law_letters", "_law_size", "_law_at", "_law_out", "_law_k", "_law_name", "_law_place", "_law_step"] "_law_symbols" Q7 f cdv A outer s H E):=(KN ht rfl rfl hr (yo _)).nox;refine YC (i:=2) YU.nd rfl (.inl rfl) UN ?_;refine YC (i:=3) YU.nd rfl (.inl rfl) (Jq yB (Z0 (pq 0 rfl) yB ?_)) ?_
 ·decide
 have p8:0<1+c % 8:=by omega
 refine YC (i:=4) YU.nd rfl (.inl rfl) (Z0 (jf py (pq 0 rfl) yB ?_) (pq 3 rfl) ?_) ?_
 ·decide
 ·exact p8
 refine KH (i:=5) YU.nd rfl (.inl rfl) (ZD yn) fun l=>?_;refine jP PassesOwn.never rfl (QR (n:=m) z.range rfl (pq 1 rfl) ?_ ?_) (fun k Γ Ω=>∃ x6 x7 x8 x9,Γ=[some (.int c),some (.int (m:Int)),some (.str fE),some (.int (1+c % 8)),some (.int (c / 8 % (1+c % 8))),some (.raw (.ref l)),x6,x7,x8,x9]/\Ω=[(l,Q3 K (Yi ((List.range k).map (Qa c))))]) ?_ ?_ ?_
 ·rfl
 ·omega
 ·exact⟨_,_,_,_,rfl,rfl⟩
 ·rintro k d Γ Ω hd ⟨x6,x7,x8,x9,rfl,rfl⟩;obtain⟨hk,rfl⟩:=jc hd;rw[YV];refine⟨_,(yT (i:=6) YU.nd rfl (.inl rfl)),?_⟩;refine YC (i:=7) YU.nd rfl (.inl rfl) UN ?_;refine jP PassesOwn.never rfl (QR (n:=szC c) z.range rfl (pq 3 rfl) ?_ ?_) (fun p Γ Ω=>∃ x8 x9,Γ=[some (.int c),some (.int (m:Int)),some (.str fE),some (.int (1+c % 8)),some (.int (c / 8 % (1+c % 8))),some (.raw (.ref l)),some (.int (k:Int)),some (.str ⟨(v0 c k p).toArray⟩),x8,x9]/\Ω=[(l,Q3 K (Yi ((List.range k).map (Qa c))))]) ?_ ?_ ?_
  ·exact(pL c).symm
  ·have:=aC c;omega
  ·exact⟨_,_,rfl,rfl⟩
  ·rintro p d Γ Ω hd ⟨x8,x9,rfl,rfl⟩;obtain⟨hp,rfl⟩:=jc hd;rw[YV];have hz:=aC c;refine⟨_,(yT (i:=8) YU.nd rfl (.inl rfl)),?_⟩;refine YC (i:=9) YU.nd rfl (.inl rfl) (Jq (Z0 (jf py (pq 0 rfl) yB ?_) yB ?_) (Jv yB (pq 8 rfl) ?_)) ?_
   ·decide
   ·decide
   ·exact dM (by omega)
   refine sH (fun Γ Ω=>∃ q:Int,q=(stp c k p:Nat)/\Γ=[some (.int c),some (.int (m:Int)),some (.str fE),some (.int (1+c % 8)),some (.int (c / 8 % (1+c % 8))),some (.raw (.ref l)),some (.int (k:Int)),some (.str ⟨(v0 c k p).toArray⟩),some (.int (p:Int)),some (.int q)]/\Ω=[(l,Q3 K (Yi ((List.range k).map (Qa c))))]) (qm (U8 (pq 8 rfl) (pq 4 rfl))) ?_ ?_ ?_
   ·intro hk2;have hk2:=of_decide_eq_true hk2;refine YC (i:=9) YU.nd rfl (.inl rfl) (Jq (pq 9 rfl) (pq 6 rfl)) ?_;refine Yb ⟨_,?_,rfl,rfl⟩;unfold stp;rw[ye (by have:=gC c;omega)];have:=eS c;push_cast;omega
   ·intro hk2;have hk2:=of_decide_eq_false hk2;refine Yb ⟨_,?_,rfl,rfl⟩;unfold stp;rw[yd (by have:=gC c;omega)];have:=eS c;push_cast;omega
   ·rintro Γ Ω ⟨q,hq,rfl,rfl⟩;refine YC (i:=7) YU.nd rfl (.inl rfl) (ow (pq 7 rfl) (sw (c:=lt (stp c k p % 52)) (pq 2 rfl) (Z0 (pq 9 rfl) yB ?_) ?_ ?_) ?_) ?_
    ·decide
    ·decide +kernel
    ·exact lJ q hq
    ·rw[sizeLine_eq];show(v0 c k p).toArray.size+1<=_;rw[yJ,uq];omega
    exact Yb ⟨_,_,by rw[dU,←ij];rfl,rfl⟩
  ·rintro Γ Ω ⟨x8,x9,rfl,rfl⟩;rw[YS];refine vo (i:=5) rfl (.inl rfl) rfl (pq 7 rfl) (by rw[qD,yf,qZ,sizeLine_eq];omega) ?_;refine Yb ⟨_,_,_,_,rfl,?_⟩;rw[QA,yr];unfold Yi;rw[yr];rfl
 ·rintro Γ Ω ⟨x6,x7,x8,x9,rfl,rfl⟩;rw[YS];refine zj (i:=5) rfl ?_;refine Y8 (pq 5 rfl) ?_;rfl
end
section
variable {P:Program}{w:World}{K:W.Frag}{mg:Str->Option Value}{base:Heap}{C_Grammar C_Sums C_Parts:Addr}
variable (P w K mg base) in
abbrev fJ:Prop:=OkF P w K mg base CX0 36 "_law_shared" ["_law_parts"] (spP K 1 fg)
theorem Uh (z:Zs mg)(d:Yn K mg "_law_shared" jN ["_law_parts"])(vD:ae P w K mg base):fJ P w K mg base:=by
 refine Yz d Uf rfl fun f cdv A outer s H E hr ds r hC B hB=>?_;obtain⟨m,f',rfl,rfl,s1,m5⟩:=hC;refine Y8 (j3 (PF3.p (qQ (SX:=yi jN) (XN:=["_law_parts"]) (N:=["_law_part", "_law_parts"]) (nt:=1) (caps:=[0]) (pre:=(fun i=>tb i fun k=>sh (qk (List.range m) f' k))) ⟨rfl,by decide +kernel,by decide +kernel,by decide +kernel,rfl,by decide +kernel⟩ (qW (pqc 0 rfl)) ?_ ?_ ?_)) (by rw[UR])) rfl
 ·intro i hi;rw[UR] at hi;rw[Yk,sizeLine_eq];omega
 ·rfl
 ·intro c i d hd;obtain⟨hi,rfl⟩:=cG hd;refine⟨_,(yT (i:=0) (show List.Nodup (α:=Str) ["_law_part", "_law_parts"] by decide +kernel) rfl (.inl rfl)),(Sub.set rfl),.inl ⟨sh (qk (List.range m) f' i),Qq,(yV (d:=sh (qk (List.range m) f' i)) vD (hr.mono (by decide)) rfl (yb (pq 0 rfl) (yb (nM rfl z.sum rfl (pqc 1 rfl)) yn)) ?_),?_⟩⟩
  ·exact⟨_,_,rfl,by rw[vg,W5],Int.natCast_nonneg _,by rw[vg];exact_mod_cast s1⟩
  ·exact Ql
theorem p6 (z:Zs mg)(yv:ClsG K C_Grammar){f:Addr}{fd:FuncData}(F:Fun K "law" "law" Z6 f fd)(QD:gG P w K mg base)(Ul:eV P w K mg base)(VP:fJ P w K mg base)(vD:ae P w K mg base)(vQ:Xw P w K mg base C_Grammar)(qi:V1 P w K mg base C_Grammar)(li:fq P w K mg base C_Grammar)(xU:eI P w K mg base C_Grammar):FnOk P w K mg base CX0 49 f fd ["_law_script"] (kf K):=by
 refine mD (k:=48) F JB fun cdv A outer s H E hr ns hlen B hB=>?_;have e4:=JJ (a:=ns.getD 0 0) (show(0:Int)<4 by decide);obtain⟨m,em⟩:∃ m:Nat,2+ns.getD 0 0 % 4=(m:Int):=⟨(2+ns.getD 0 0 % 4).toNat,by omega⟩
 have m2:2<=m:=by omega
 have m5:m<=5:=by omega
 refine YC (i:=1) JB.nd rfl (.inr rfl) (j3 (d:=.int (m:Int)) (Jq yB (Z0 (yV (d:=.int (ns.getD 0 0)) QD (hr.mono (by decide)) rfl (yb (pqc 0 rfl) (yb yB yn)) ?_) yB ?_)) (by rw[em])) ?_
 ·exact⟨ns,0,rfl,rfl⟩
 ·decide
 refine YC (i:=2) JB.nd rfl (.inr rfl) (yV (d:=.lst (Yi ((List.range (m+1)).map (Qa (ns.getD 1 0))))) Ul (hr.mono (by decide)) rfl (yb (yV (d:=.int (ns.getD 1 0)) QD (hr.mono (by decide)) rfl (yb (pqc 0 rfl) (yb yB yn)) ?_) (yb (Jq (pqc 1 rfl) yB) yn)) ?_) ?_
 ·exact⟨ns,1,rfl,rfl⟩
 ·exact⟨ns.getD 1 0,m+1,by push_cast;rfl,rfl,by omega⟩
 generalize ns.getD 1 0=c;obtain⟨p,hp⟩:∃ p:Nat->Nat,∀ k,1+ns.getD (2+k) 0 % 9=(p k:Int)/\1<=p k/\p k<=40:=⟨fun k=>(1+ns.getD (2+k) 0 % 9).toNat,fun k=>by have:=JJ (a:=ns.getD (2+k) 0) (show(0:Int)<9 by decide);dsimp only;omega⟩
 obtain⟨o,ho⟩:∃ o:Nat->Nat,∀ k,1+ns.getD (7+k) 0 % 40=(o k:Int)/\1<=o k/\o k<=40:=⟨fun k=>(1+ns.getD (7+k) 0 % 40).toNat,fun k=>by have:=JJ (a:=ns.getD (7+k) 0) (show(0:Int)<40 by decide);dsimp only;omega⟩
 obtain⟨c0,hc0⟩:∃ c0:Nat->Nat,∀ k,ns.getD (12+k) 0 % 10=(c0 k:Int)/\c0 k<=9:=⟨fun k=>(ns.getD (12+k) 0 % 10).toNat,fun k=>by have:=JJ (a:=ns.getD (12+k) 0) (show(0:Int)<10 by decide);dsimp only;omega⟩
 have kp:KOk m (List.range m) p:=bI m2 m5 fun k=>(hp k).2;have ko:KOk m (List.range m) o:=bI m2 m5 fun k=>(ho k).2;refine YC (i:=3) JB.nd rfl (.inr rfl) (yV (d:=.lst (tb m fun k=>sh (qk (List.range m) p k))) VP (hr.mono (by decide)) rfl (yb (PF3.p (qQ (SX:=yi Z6) (XN:=["_law_script", "_law_many", "_law_names", "_law_shares", "_law_others", "_law_counts", "_law_counted", "_law_rules", "_law_found", "_law_due", "_law_mine", "_law_rivals", "_law_theirs"]) (N:=["_law_k", "_law_script"]) (nt:=1) (caps:=[0]) (pre:=(fun i=>tb i fun k=>.int (p k:Int))) ⟨rfl,by decide +kernel,by decide +kernel,by decide +kernel,rfl,by decide +kernel⟩ (QR (n:=m) z.range rfl (pqc 1 rfl) ?_ ?_) ?_ ?_ ?_)) yn) ?_) ?_
 ·rfl
 ·omega
 ·intro i hi;rw[YS] at hi;rw[Yk,sizeLine_eq];omega
 ·rfl
 ·intro c' i d hd;obtain⟨hi,rfl⟩:=jc hd;rw[YV];refine⟨_,(yT (i:=0) (show List.Nodup (α:=Str) ["_law_k", "_law_script"] by decide +kernel) rfl (.inl rfl)),(Sub.set rfl),.inl ⟨.int (p i:Int),Qq,(j3 (Jq yB (Z0 (yV (d:=.int (ns.getD (2+i) 0)) QD (hr.mono (by decide)) rfl (yb (pqc 1 rfl) (yb (Jq yB (pq 0 rfl)) yn)) ?_) yB ?_)) ?_),?_⟩⟩
  ·exact⟨ns,2+i,by push_cast;rfl,rfl⟩
  ·decide
  ·rw[(hp i).1]
  ·exact Ql
 ·exact⟨m,p,by rw[YS,Vj],rfl,kp.sum1,m5⟩
 refine YC (i:=4) JB.nd rfl (.inr rfl) (yV (d:=.lst (tb m fun k=>sh (qk (List.range m) o k))) VP (hr.mono (by decide)) rfl (yb (PF3.p (qQ (SX:=yi Z6) (XN:=["_law_script", "_law_many", "_law_names", "_law_shares", "_law_others", "_law_counts", "_law_counted", "_law_rules", "_law_found", "_law_due", "_law_mine", "_law_rivals", "_law_theirs"]) (N:=["_law_k", "_law_script"]) (nt:=1) (caps:=[0]) (pre:=(fun i=>tb i fun k=>.int (o k:Int))) ⟨rfl,by decide +kernel,by decide +kernel,by decide +kernel,rfl,by decide +kernel⟩ (QR (n:=m) z.range rfl (pqc 1 rfl) ?_ ?_) ?_ ?_ ?_)) yn) ?_) ?_
 ·rfl
 ·omega
 ·intro i hi;rw[YS] at hi;rw[Yk,sizeLine_eq];omega
 ·rfl
 ·intro c' i d hd;obtain⟨hi,rfl⟩:=jc hd;rw[YV];refine⟨_,(yT (i:=0) (show List.Nodup (α:=Str) ["_law_k", "_law_script"] by decide +kernel) rfl (.inl rfl)),(Sub.set rfl),.inl ⟨.int (o i:Int),Qq,(j3 (Jq yB (Z0 (yV (d:=.int (ns.getD (7+i) 0)) QD (hr.mono (by decide)) rfl (yb (pqc 1 rfl) (yb (Jq yB (pq 0 rfl)) yn)) ?_) yB ?_)) ?_),?_⟩⟩
  ·exact⟨ns,7+i,by push_cast;rfl,rfl⟩
  ·decide
  ·rw[(ho i).1]
  ·exact Ql
 ·exact⟨m,o,by rw[YS,Vj],rfl,ko.sum1,m5⟩
 refine KH (i:=5) JB.nd rfl (.inr rfl) (qQ (SX:=yi Z6) (XN:=["_law_script", "_law_many", "_law_names", "_law_shares", "_law_others", "_law_counts", "_law_counted", "_law_rules", "_law_found", "_law_due", "_law_mine", "_law_rivals", "_law_theirs"]) (N:=["_law_k", "_law_script"]) (nt:=1) (caps:=[0]) (pre:=(fun i=>tb i fun k=>.int (c0 k:Int))) ⟨rfl,by decide +kernel,by decide +kernel,by decide +kernel,rfl,by decide +kernel⟩ (QR (n:=m) z.range rfl (pqc 1 rfl) ?_ ?_) ?_ ?_ ?_) fun l=>?_
 ·rfl
 ·omega
 ·intro i hi;rw[YS] at hi;rw[Yk,sizeLine_eq];omega
 ·rfl
 ·intro c' i d hd;obtain⟨hi,rfl⟩:=jc hd;rw[YV];refine⟨_,(yT (i:=0) (show List.Nodup (α:=Str) ["_law_k", "_law_script"] by decide +kernel) rfl (.inl rfl)),(Sub.set rfl),.inl ⟨.int (c0 i:Int),Qq,(j3 (Z0 (yV (d:=.int (ns.getD (12+i) 0)) QD (hr.mono (by decide)) rfl (yb (pqc 1 rfl) (yb (Jq yB (pq 0 rfl)) yn)) ?_) yB ?_) ?_),?_⟩⟩
  ·exact⟨ns,12+i,by push_cast;rfl,rfl⟩
  ·decide
  ·rw[(hc0 i).1]
  ·exact Ql
 rw[YS];have e17:=JJ (a:=ns.getD 17 0) (show(0:Int)<(m:Int) by omega);obtain⟨j0,ej⟩:∃ j0:Nat,ns.getD 17 0 % (m:Int)=(j0:Int):=⟨(ns.getD 17 0 % (m:Int)).toNat,by omega⟩
 have hj:j0<m:=by omega
 have e18:=JJ (a:=ns.getD 18 0) (show(0:Int)<9 by decide);obtain⟨x,ex⟩:∃ x:Nat,1+ns.getD 18 0 % 9=(x:Int):=⟨(1+ns.getD 18 0 % 9).toNat,by omega⟩
 refine cK (YH (j3 (d:=.int (x:Int)) (Jq yB (Z0 (yV (d:=.int (ns.getD 18 0)) QD (hr.mono (by decide)) rfl (yb (pqc 0 rfl) (yb yB yn)) ?_) yB ?_)) (by rw[ex])) (YH (pqc 5 rfl) ⟨l,rfl,YH (j3 (d:=.int (j0:Int)) (Z0 (yV (d:=.int (ns.getD 17 0)) QD (hr.mono (by decide)) rfl (yb (pqc 0 rfl) (yb yB yn)) ?_) (pqc 1 rfl) ?_) (by rw[ej])) ⟨(j0:Int),j0,tb m fun k=>.int (c0 k:Int),[],rfl,List.Perm.refl _,?_,?_⟩⟩))
 ·exact⟨ns,18,rfl,rfl⟩
 ·decide
 ·exact⟨ns,17,rfl,rfl⟩
 ·omega
 ·unfold ixN;rw[ye (by omega),Yk,ye (by omega)];rfl
 refine zj (i:=5) rfl ?_;obtain⟨ct,hct⟩:∃ ct:Nat->Nat,∀ k,ct k=if k=j0 then x else c0 k:=⟨_,fun _=>rfl⟩
 have c9:∀ k,ct k<=9:=fun k=>by
  rw[hct];have:=(hc0 k).2;split <;> omega
 have c1:1<=ct j0:=by rw[hct,ye rfl];omega
 have kc:KOk m (pos ct m) ct:=tG m5 hj c1 c9;have es:((tb m fun k=>D.int ((c0 k:Nat):Int)).set j0 (.int (x:Int)))=Vx m ct:=by
  rw[pS,←Vj];refine Zi fun k _=>?_;rw[hct];split <;> rfl
 rw[es];refine ZL (i:=6) (SX:=yi Z6) (XN:=["_law_script", "_law_many", "_law_names", "_law_shares", "_law_others", "_law_counts", "_law_counted", "_law_rules", "_law_found", "_law_due", "_law_mine", "_law_rivals", "_law_theirs"]) (N:=["_law_k", "_law_names", "_law_counts"]) (nt:=1) (caps:=[2,5]) (pre:=(fun i=>ke (Js (cqK c m (qk (List.range m) p) (pos ct i) ct))))  ⟨rfl,by decide +kernel,by decide +kernel,by decide +kernel,rfl,by decide +kernel⟩ JB.nd rfl (.inl rfl)  (QR (n:=m) z.range rfl (pqc 1 rfl) ?_ ?_) ?_ ?_ ?_ ?_
 ·rfl
 ·omega
 ·intro i hi;rw[YS] at hi;rw[uA,sizeLine_eq];have:(Js (cqK c m (qk (List.range m) p) (pos ct i) ct)).length=(pos ct i).length:=by unfold Js cqK;rw[yf,yf]
  have:=Vo (ct:=ct) (i:=i);omega
 ·rfl
 ·intro c' i d hd;obtain⟨hi,rfl⟩:=jc hd;rw[YV];by_cases q:0<ct i
  ·refine⟨_,(yT (i:=0) (show List.Nodup (α:=Str) ["_law_k", "_law_names", "_law_counts"] by decide +kernel) rfl (.inl rfl)),(Sub.set rfl),.inl ⟨ctD (sX (rK c m (qk (List.range m) p) i,ct i)),(K7 (qm (KO (QS (d:=.int (ct i:Int)) (pqc 2 rfl) (pq 0 rfl) ?_) yB)) ?_),(j3 (QE (yb (QE (yb (QS (d:=.str (Qa c i)) (pqc 1 rfl) (pq 0 rfl) ?_) yn)) (yb (QS (d:=.int (ct i:Int)) (pqc 2 rfl) (pq 0 rfl) ?_) yn))) ?_),?_⟩⟩
   ·exact Zo hi
   ·exact yO (by omega)
   ·exact JW (by omega)
   ·exact Zo hi
   ·rfl
   ·dsimp only;rw[WM q];unfold ke Js cqK;rw[yr,yr,yr];rfl
  ·refine⟨_,(yT (i:=0) (show List.Nodup (α:=Str) ["_law_k", "_law_names", "_law_counts"] by decide +kernel) rfl (.inl rfl)),(Sub.set rfl),.inr ⟨(K7 (qm (KO (QS (d:=.int (ct i:Int)) (pqc 2 rfl) (pq 0 rfl) ?_) yB)) ?_),?_⟩⟩
   ·exact Zo hi
   ·exact yC (by omega)
   ·dsimp only;rw[xj q]
 refine ZL (i:=7) (SX:=yi Z6) (XN:=["_law_script", "_law_many", "_law_names", "_law_shares", "_law_others", "_law_counts", "_law_counted", "_law_rules", "_law_found", "_law_due", "_law_mine", "_law_rivals", "_law_theirs"]) (N:=["_law_k", "_law_many", "_law_names", "_law_shares"]) (nt:=1) (caps:=[1,2,3]) (pre:=(fun i=>tb i fun k=>Qo (rK c m (qk (List.range m) p) k)))  ⟨rfl,by decide +kernel,by decide +kernel,by decide +kernel,rfl,by decide +kernel⟩ JB.nd rfl (.inl rfl)  (QR (n:=m) z.range rfl (pqc 1 rfl) ?_ ?_) ?_ ?_ ?_ ?_
 ·rfl
 ·omega
 ·intro i hi;rw[YS] at hi;rw[Yk,sizeLine_eq];omega
 ·rfl
 ·intro c' i d hd;obtain⟨hi,rfl⟩:=jc hd;rw[YV];refine⟨_,(yT (i:=0) (show List.Nodup (α:=Str) ["_law_k", "_law_many", "_law_names", "_law_shares"] by decide +kernel) rfl (.inl rfl)),(Sub.set rfl),.inl ⟨Qo (rK c m (qk (List.range m) p) i),Qq,(j3 (QE (yb (QS (d:=.str (Qa c m)) (pqc 2 rfl) (pqc 1 rfl) ?_) (yb (QE (yb (QS (d:=.str (Qa c i)) (pqc 2 rfl) (pq 0 rfl) ?_) yn)) (yb (QS (d:=sh (qk (List.range m) p i)) (pqc 3 rfl) (pq 0 rfl) ?_) yn)))) ?_),?_⟩⟩
  ·exact JW (by omega)
  ·exact JW (by omega)
  ·exact zU hi
  ·rfl
  ·exact Ql
 rw[YS,U7];refine YC (i:=8) JB.nd rfl (.inl rfl) (yV (d:=gD C_Grammar (Qa c m) (RK c m (pos ct m) ct)) li (hr.mono (by decide)) rfl (yb (ue (r:=(gF,gDs (Qa c m) (RK c m (List.range m) p))) vQ (hr.mono (by decide)) rfl (yb (QS (d:=.str (Qa c m)) (pqc 2 rfl) (pqc 1 rfl) ?_) (yb (pq 7 rfl) yn)) ?_) (yb (PF3.p (JZ z.list rfl (pq 6 rfl) (.inl rfl))) yn)) ?_) ?_
 ·exact JW (by omega)
 ·exact⟨Qa c m,RK c m (List.range m) p,rfl,rfl,eW kp⟩
 ·refine⟨Qa c m,RK c m (List.range m) p,20,cqK c m (qk (List.range m) p) (pos ct m) ct,rfl,by rw[xI m5],zS kp,WO m5 c9 (fun k hk=>by simpa using Vb k hk) rfl,?_,by rw[xI m5];exact eW kc⟩;exact l8 m5 kc
 refine ZL (i:=9) (SX:=yi Z6) (XN:=["_law_script", "_law_many", "_law_names", "_law_shares", "_law_others", "_law_counts", "_law_counted", "_law_rules", "_law_found", "_law_due", "_law_mine", "_law_rivals", "_law_theirs"]) (N:=["_law_k", "_law_many", "_law_names", "_law_counts"]) (nt:=1) (caps:=[1,2,5]) (pre:=(fun i=>yG ((pos ct i).map (rK c m (qk (pos ct m) ct)))))  ⟨rfl,by decide +kernel,by decide +kernel,by decide +kernel,rfl,by decide +kernel⟩ JB.nd rfl (.inl rfl)  (QR (n:=m) z.range rfl (pqc 1 rfl) ?_ ?_) ?_ ?_ ?_ ?_
 ·rfl
 ·omega
 ·intro i hi;rw[YS] at hi;rw[YX,yf,sizeLine_eq];have:=Vo (ct:=ct) (i:=i);omega
 ·rfl
 ·intro c' i d hd;obtain⟨hi,rfl⟩:=jc hd;rw[YV];by_cases q:0<ct i
  ·refine⟨_,(yT (i:=0) (show List.Nodup (α:=Str) ["_law_k", "_law_many", "_law_names", "_law_counts"] by decide +kernel) rfl (.inl rfl)),(Sub.set rfl),.inl ⟨Qo (rK c m (qk (pos ct m) ct) i),(K7 (qm (KO (QS (d:=.int (ct i:Int)) (pqc 3 rfl) (pq 0 rfl) ?_) yB)) ?_),(j3 (QE (yb (QS (d:=.str (Qa c m)) (pqc 2 rfl) (pqc 1 rfl) ?_) (yb (QE (yb (QS (d:=.str (Qa c i)) (pqc 2 rfl) (pq 0 rfl) ?_) yn)) (yb (yV (d:=sh (qk (pos ct m) ct i)) vD (hr.mono (by decide)) rfl (yb (QS (d:=.int (ct i:Int)) (pqc 3 rfl) (pq 0 rfl) ?_) (yb (nM rfl z.sum rfl (pqc 3 rfl)) yn)) ?_) yn)))) ?_),?_⟩⟩
   ·exact Zo hi
   ·exact yO (by omega)
   ·exact JW (by omega)
   ·exact JW (by omega)
   ·exact Zo hi
   ·refine⟨_,_,rfl,?_,Int.natCast_nonneg _,?_⟩
    ·rw[vg,←VD (l:=List.range m),←W5];rfl
    ·rw[vg,←VD (l:=List.range m)]
     exact_mod_cast kc.sum1
   ·rfl
   ·dsimp only;rw[WM q];unfold yG;rw[yr,yr];rfl
  ·refine⟨_,(yT (i:=0) (show List.Nodup (α:=Str) ["_law_k", "_law_many", "_law_names", "_law_counts"] by decide +kernel) rfl (.inl rfl)),(Sub.set rfl),.inr ⟨(K7 (qm (KO (QS (d:=.int (ct i:Int)) (pqc 3 rfl) (pq 0 rfl) ?_) yB)) ?_),?_⟩⟩
   ·exact Zo hi
   ·exact yC (by omega)
   ·dsimp only;rw[xj q]
 rw[YS];refine JX (qm (Xi hr.units (PF3.p (Jh (ds:=yG (RK c m (pos ct m) ct)) qi yv.c (hr.mono (by decide)) (pq 8 rfl) QU ?_)) (pq 9 rfl) ?_ ?_)) ?_ ?_
 ·exact⟨Qa c m,_,rfl,rfl⟩
 ·exact XF
 ·exact XC
 ·intro hk;have hk:(!Y2 (.lst (yG (RK c m (pos ct m) ct))) (.lst (yG (RK c m (pos ct m) ct))))=true:=hk;rw[Zg KM] at hk;cases hk
 intro _;refine Yb ?_;refine YC (i:=10) JB.nd rfl (.inl rfl) (yV (d:=sh (zN (cqK c m (qk (pos ct m) ct) (pos ct m) ct))) xU (hr.mono (by decide)) rfl (yb (pq 8 rfl) (yb (PF3.p (JZ z.list rfl (pq 6 rfl) (.inl rfl))) yn)) ?_) ?_
 ·exact⟨Qa c m,RK c m (pos ct m) ct,20,cqK c m (qk (pos ct m) ct) (pos ct m) ct,by rw[UK (g:=qk (List.range m) p) (g':=qk (pos ct m) ct)],rfl,zS kc,WO m5 c9 (fun k hk=>hk) rfl⟩
 refine YC (i:=11) JB.nd rfl (.inl rfl) (ue (r:=(gF,gDs (Qa c m) (RK c m (List.range m) o))) vQ (hr.mono (by decide)) rfl (yb (QS (d:=.str (Qa c m)) (pqc 2 rfl) (pqc 1 rfl) ?_) (yb (PF3.p (qQ (SX:=yi Z6) (XN:=["_law_script", "_law_many", "_law_names", "_law_shares", "_law_others", "_law_counts", "_law_counted", "_law_rules", "_law_found", "_law_due", "_law_mine", "_law_rivals", "_law_theirs"]) (N:=["_law_k", "_law_many", "_law_names", "_law_others"]) (nt:=1) (caps:=[1,2,4]) (pre:=(fun i=>tb i fun k=>Qo (rK c m (qk (List.range m) o) k))) ⟨rfl,by decide +kernel,by decide +kernel,by decide +kernel,rfl,by decide +kernel⟩ (QR (n:=m) z.range rfl (pqc 1 rfl) ?_ ?_) ?_ ?_ ?_)) yn)) ?_) ?_
 ·exact JW (by omega)
 ·rfl
 ·omega
 ·intro i hi;rw[YS] at hi;rw[Yk,sizeLine_eq];omega
 ·rfl
 ·intro c' i d hd;obtain⟨hi,rfl⟩:=jc hd;rw[YV];refine⟨_,(yT (i:=0) (show List.Nodup (α:=Str) ["_law_k", "_law_many", "_law_names", "_law_others"] by decide +kernel) rfl (.inl rfl)),(Sub.set rfl),.inl ⟨Qo (rK c m (qk (List.range m) o) i),Qq,(j3 (QE (yb (QS (d:=.str (Qa c m)) (pqc 2 rfl) (pqc 1 rfl) ?_) (yb (QE (yb (QS (d:=.str (Qa c i)) (pqc 2 rfl) (pq 0 rfl) ?_) yn)) (yb (QS (d:=sh (qk (List.range m) o i)) (pqc 3 rfl) (pq 0 rfl) ?_) yn)))) ?_),?_⟩⟩
  ·exact JW (by omega)
  ·exact JW (by omega)
  ·exact zU hi
  ·rfl
  ·exact Ql
 ·exact⟨Qa c m,RK c m (List.range m) o,by rw[YS,U7],rfl,eW ko⟩
 refine YC (i:=12) JB.nd rfl (.inl rfl) (yV (d:=sh (zN (cqK c m (qk (List.range m) o) (pos ct m) ct))) xU (hr.mono (by decide)) rfl (yb (pq 11 rfl) (yb (PF3.p (JZ z.list rfl (pq 6 rfl) (.inl rfl))) yn)) ?_) ?_
 ·exact⟨Qa c m,RK c m (List.range m) o,20,cqK c m (qk (List.range m) o) (pos ct m) ct,by rw[UK (g:=qk (List.range m) p) (g':=qk (List.range m) o)];rfl,rfl,zS ko,WO m5 c9 (fun k hk=>by simpa using Vb k hk) rfl⟩
 have z1:=Vm (zS (c:=c) kc) (WO (c:=c) (g:=qk (pos ct m) ct) m5 c9 (fun k hk=>hk) rfl) _ (yo _);have z2:=Vm (zS (c:=c) ko) (WO (c:=c) (g:=qk (List.range m) o) (ct:=ct) m5 c9 (fun k hk=>by simpa using Vb k hk) rfl) _ (yo _);rw[yK] at z1 z2;have le:=hV (c:=c) ko kc;have cl:∀ g,(cqK c m g (pos ct m) ct).length<=5:=fun g=>by unfold cqK;rw[yf];exact Ye Vo m5
 have l1:=cl (qk (pos ct m) ct);have l2:=cl (qk (List.range m) o);have big':big=67108864:=rfl;refine Y8 (Vw (An (Jv (Yg (pq 10 rfl) yB rfl) (Yg (pq 12 rfl) yB rfl) ?_) (Jv (Yg (pq 12 rfl) yB rfl) (Yg (pq 10 rfl) yB rfl) ?_))) ?_
 ·exact VV z1.2 z2.2 (by omega) (by omega)
 ·exact VV z2.2 z1.2 (by omega) (by omega)
 ·show D.bl (decide _)=D.bl true;rw[yO];exact(Rat.le_iff _ _).mp le
end
section
variable {P:Program}{w:World}{K:W.Frag}{mg:Str->Option Value}{base:Heap}{C_Grammar C_Sums C_Parts:Addr}
theorem lK (ht:P.given.tree=none)(z:Zs mg)(yF:ql K mg "NOUGHT" (sh 0))(jQ:ql K mg "ONE" (sh 1))(Jm:ql K mg "MOST_RULES" (.int 30))(jy:ql K mg "MOST_SYMBOLS" (.int 4))(Qk:ql K mg "MOST_LETTERS" (.int 8))(yv:ClsG K C_Grammar)(kB:zG K mg "Grammar" C_Grammar "Grammar.__init__" qC ["self", "start", "rules"])(JQ:YD K C_Grammar "start" "Grammar.start" Qu ["self"])(JS:YD K C_Grammar "rules" "Grammar.rules" Qr ["self"])(JU:YD K C_Grammar "heads" "Grammar.heads" Qt ["self"])(zB:YD K C_Grammar "live" "Grammar.live" QQ ["self"])(yR:ClsS K C_Sums)(aT:zG K mg "Sums" C_Sums "Sums.__init__" qz ["self", "grammar", "row"])(z0:YD K C_Sums "within" "Sums.within" Q8 ["self", "head", "i", "j"])(ZQ:YD K C_Sums "whole" "Sums.whole" jJ ["self"])(zW:YD K C_Sums "settle" "Sums.settle" Qz ["self", "i", "j"])(zy:YD K C_Sums "ends_at" "Sums.ends_at" QM ["self", "i", "j"])(ZT:YD K C_Sums "worth" "Sums.worth" jD ["self", "symbol", "i", "j"])(jA:YD K C_Sums "worth_of_body" "Sums.worth_of_body" qo ["self", "body", "i", "j"])(yH:ClsP K C_Parts)(Ww:zG K mg "Parts" C_Parts "Parts.__init__" QN ["self", "grammar", "row"])(zw:YD K C_Parts "beyond" "Parts.beyond" jt ["self", "head", "i", "j"])(ZX:YD K C_Parts "hand" "Parts.hand" Jj ["self", "body", "i", "j", "pair"])(jb:YD K C_Parts "hand_to_heads" "Parts.hand_to_heads" Y9 ["self", "i", "j"])(QZ:YD K C_Parts "hand_to_bodies" "Parts.hand_to_bodies" qu ["self", "i", "j"])(Qj:YD K C_Parts "hand_within_bodies" "Parts.hand_within_bodies" Yv ["self", "i", "j"])(ZR:YD K C_Parts "uses" "Parts.uses" jH ["self", "rule"])(JG:Yn K mg "common_divisor" Qf ["one", "other"])(WB:Yn K mg "share" Zv ["top", "bottom"])(WD:Yn K mg "added" Zz ["one", "other"])(ky:Yn K mg "is_less" J7 ["one", "other"])(Vg:Yn K mg "lessened" Jx ["one", "other"])(Wt:Yn K mg "timed" vN ["one", "other"])(uL:Yn K mg "parted" Zf ["one", "other"])(Jn:Yn K mg "sum_of_products" qx ["pairs"])(ku:Yn K mg "cleared" J8 ["row", "k"])(JH:Yn K mg "without_itself" qG ["row", "k"])(uN:Yn K mg "put_in" zl ["row", "k", "found"])(zZ:Yn K mg "solved_rows" qI ["ways", "ends"])(Zb:Yn K mg "check_rules" Q6 ["rules"])(ZW:Yn K mg "check_rule" jF ["rule"])(zD:Yn K mg "check_symbol" QT ["text"])(vC:Yn K mg "is_symbol" jx ["text"])(vx:Yn K mg "is_letter" j9 ["sign"])(Za:Yn K mg "check_start" Q5 ["start", "heads"])(ZZ:Yn K mg "check_sums" jE ["heads", "rules"])(Vh:Yn K mg "heads_of" JF ["rules"])(kF:Yn K mg "live_of" Jy ["heads", "rules"])(JR:Yn K mg "has_live_body" qY ["head", "rules", "heads", "live"])(zu:Yn K mg "is_live_body" Qi ["body", "heads", "live"])(vG:Yn K mg "stretches" jq ["row"])(ZY:Yn K mg "live_rules" jM ["grammar"])(kC:Yn K mg "is_step" Zn ["rule", "heads"])(vy:Yn K mg "chains_of" js ["heads", "steps"])(uM:Yn K mg "likely" vt ["grammar", "counted"])(uQ:Yn K mg "learnt" vp ["grammar", "counted"])(vz:Yn K mg "counts_of" jv ["grammar", "counted"])(zC:Yn K mg "sums_by_head" jp ["rules", "counts"])(z9:Yn K mg "_law_cell_at" jT ["_law_script", "_law_k"])(zX:Yn K mg "_law_symbols" Q7 ["_law_cell", "_law_many"])(vE:Yn K mg "_law_share" Jb ["_law_top", "_law_bottom"])(ZV:Yn K mg "_law_shared" jN ["_law_parts"]){f:Addr}{fd:FuncData}(F:Fun K "law" "law" Z6 f fd):FnOk P w K mg base CX0 49 f fd ["_law_script"] (kf K):=by
 have q1:=Vu (P:=P) (w:=w) (base:=base) JG;have q1s:=gM ht WB q1;have q2:=gr ht WD q1;have s4:=XT (P:=P) (w:=w) (base:=base) ky;have s5:=WR Vg q1s s4;have s6:=gJ Wt q1s;have s7:=dy yF uL s6;have s8:=Xk (P:=P) (w:=w) (base:=base) yF ku;have s9:=VH z yF jQ JH s4 s5 s7 s8;have s10:=dh z yF uN q2 s6 s8;have s11:=ux z zZ s9 s10;have q3:=wn (P:=P) (w:=w) (base:=base) vx;have q3b:=wa z Qk vC q3;have q4:=kY z Qk zD q3b;have q5:=Ub z yF jy ZW q4;have q6:=ui z Jm Zb q5;have q7:=K9 (P:=P) (w:=w) (base:=base) Za;have q8:=Ue yF jQ ZZ q2;have q9:=W4 (P:=P) (w:=w) (base:=base) Vh;have q10:=Kc (P:=P) (w:=w) (base:=base) z zu;have q11:=VT z JR q10;have q12:=Xe z kF q11;have q13:=aF z yv kB q6 q9 q7 q8 q12;have q14:=km (mg:=mg) (P:=P) (w:=w) (base:=base) yv JQ;have q15:=V9 (P:=P) (w:=w) (base:=base) z yv JS;have q16:=V8 (P:=P) (w:=w) (base:=base) z yv JU;have q17:=kX (P:=P) (w:=w) (base:=base) z yv zB;have u1:=Vf ht yF Jn q1 q1s;have u2:=wP (P:=P) (w:=w) (base:=base) z vG;have u3:=uZ yv ZY q16 q17 q15 q10;have u4:=X5 (P:=P) (w:=w) (base:=base) z kC;have u5:=wY z yF jQ vy s11;have u6:=uw (P:=P) (w:=w) (base:=base) yR yF z0;have u7:=uV z yR yv ZQ u6 q14;have u8:=uT yR yF jQ ZT u6;have u9:=vc z yR jA u8;have u10:=k6 yR yF zy u9 q2 s6;have u11:=KL yR yF zW u10 u1;have u12:=lX z yR yv aT q17 u3 q16 u4 u5 u2 u11;have t1:=kQ (P:=P) (w:=w) (base:=base) yH yF zw;have t2:=Uc (P:=P) (w:=w) (base:=base) (C_Grammar:=C_Grammar) z yH yR yF ZX;have t3:=ZJ (C_Grammar:=C_Grammar) z yH yR jb u1;have t4:=Zj z yH yR QZ t1 t2;have t5:=J5 (P:=P) (w:=w) (base:=base) (C_Grammar:=C_Grammar) (C_Sums:=C_Sums) z yH Qj;have t6:=eD z yH yR yv yF jQ Ww u12 u7 q15 q14 u2 t2 t3 t4 t5;have t7:=Ug z yH yR yv ZR t1 u9 u1 s6 s7 u7;have t8:=db z yv yR jQ uM u12 u7 s6;have t9:=w6 z yv yH yF vz q15 t6 t7 q2 s6;have t10:=Kb z yF zC q2;have t11:=dL z yv yF uQ q15 t9 t10 s7 q14 q13;have r1:=ud (P:=P) (w:=w) (base:=base) z z9
 have r3:=w4 (w:=w) (base:=base) ht vE;have r9:=uk (w:=w) (base:=base) ht z zX;have r10:=Uh z ZV r3;exact p6 z yv F r1 r9 r10 r3 q13 q15 t11 t8
end
end Law
namespace L3
open PySem
theorem vU {us:List Value}(e:us.length=1):∃ a,us=[a]:=List.length_eq_one_iff.mp e
theorem J0 {us:List Value}(e:us.length=2):∃ a b,us=[a,b]:=by
 cases us with
 |nil=>cases e
 |cons a r=>obtain⟨b,h⟩:=vU (Nat.succ.inj e);exact⟨a,b,by rw[h]⟩
theorem K4 {us:List Value}(e:us.length=3):∃ a b c,us=[a,b,c]:=by
 cases us with
 |nil=>cases e
 |cons a r=>obtain⟨b,c,h⟩:=J0 (Nat.succ.inj e);exact⟨a,b,c,by rw[h]⟩
theorem cu {us:List Value}(e:us.length=4):∃ a b c d,us=[a,b,c,d]:=by
 cases us with
 |nil=>cases e
 |cons a r=>obtain⟨b,c,d,h⟩:=K4 (Nat.succ.inj e);exact⟨a,b,c,d,by rw[h]⟩
theorem Ab {us:List Value}(e:us.length=5):∃ a b c d f,us=[a,b,c,d,f]:=by
 cases us with
 |nil=>cases e
 |cons a r=>obtain⟨b,c,d,f,h⟩:=cu (Nat.succ.inj e);exact⟨a,b,c,d,f,by rw[h]⟩
end L3
namespace Law
open PySem L2 L3
theorem walk {l:W.OpenLaw}{q:Program}{loose:List Str}{XP:(Str->Option Value)->Heap->Prop}{YP:World->Heap->Prop}{d:DefRec}{K:Params->W.Frag}(hn:l.most=some 63)(hi:PyProof.Rows.importsNone q=true)(hdf:d.params.defaults=[])
  (hY:∀ (w:World) (h:Heap),YP w h->(K w.params).In h)
  (F:∀ (w:World) (mg:Str->Option Value) (fa:Addr) (h:Heap),(K w.params).In h->h.Ns mainGlobals mg->mg d.name=some (.ref fa)->
   ∃ fd:FuncData,(∀ (s:Shared) (u:Value),BindsTo s fd ⟨[u],[]⟩ [("_law_script", u)])/\∀ base:Heap,(K w.params).In base->base.Ns mainGlobals mg->FnOk l.prog w (K w.params) mg base CX0 49 fa fd ["_law_script"] (kf (K w.params))) :
  W.WalkO q loose XP YP l.row.toRowW d [] (fun f vs=>PySem.call f vs):=
 L2.mw (n:=63) (k:=49) (x:="_law_script") (CX:=fun _=>CX0) (sp:=fun w=>kf (K w.params)) hn (by decide) hi hdf ⟨rfl,by decide,by decide⟩ hY F (fun _ _ a ns hl _ hS=>ni hl hS) fun _ _ _ _ _ z=>z
end Law
open PySem PySem.W PyProof.Rows
set_option maxRecDepth 100000 in
set_option maxHeartbeats 0 in
theorem PySem.Challenge.cw_scoreflow_k20_whole_counted_apart_holds : PySem.Challenge.rw_scoreflow_k20_whole_counted_apart.Holds := by
 w_on;refine PySem.W.holds_law Law.sY fun said=>?_
 refine PySem.W.holds_open (q:=Law.ax) (loose:=[]) (Xt:=fun s=>PySem.W.xlAt Law.ax [] s&&PySem.W.recOk [] s) (XP:=PySem.W.XL Law.ax [])
  (Yf:=(PySem.W.kHook Law.KP Law.KA Law.KE).obs) (Ya:=(PySem.W.kHook Law.KP Law.KA Law.KE).val) (YP:=(PySem.W.kHook Law.KP Law.KA Law.KE).says) (N:=(12+(1+(1600+(1500+1000))))) Law.hl (PySem.W.kHook Law.KP Law.KA Law.KE).of (PySem.W.kHook Law.KP Law.KA Law.KE).keeps
  (fun s e=>PySem.W.xl_of s (Bool.and_eq_true_iff.mp e).1) PySem.W.XL.keeps (by rfl) (by rfl) (by rfl) (fun s e=>PySem.W.recFacts_of (Bool.and_eq_true_iff.mp e).2) ?d4 ?d5 ?d6 ⟨rfl,rfl,rfl,rfl,rfl,by decide +kernel⟩ ?hw ?hc
 case d4=>rfl
 case d5=>first|assumption|decide +kernel
 case d6=>decide +kernel
 case hw=>w_witness2
 k_fill
 refine Law.walk (l:=PySem.Challenge.rw_scoreflow_k20_whole_counted_apart) rfl ?hi rfl (fun w h Y=>PySem.W.kIn_of Y) ?F
 case hi=>decide +kernel
 case F=>
  intro w mg fa h KX G hmg;have JG:L2.Yn (L2.KOf KX) mg "common_divisor" Law.Qf ["one", "other"]:=by
   dsimp only[L2.KOf];refine' L2.Y0 KX G _ ?a ?l ?c ?k ?b;case a|l|c|k=>k_is
   case b=>intro _ _ _ _ _ _ us hl;obtain⟨_,_,rfl⟩:=L3.J0 hl;rfl
  have WB:L2.Yn (L2.KOf KX) mg "share" Law.Zv ["top", "bottom"]:=by
   dsimp only[L2.KOf];refine' L2.Y0 KX G _ ?a ?l ?c ?k ?b;case a|l|c|k=>k_is
   case b=>intro _ _ _ _ _ _ us hl;obtain⟨_,_,rfl⟩:=L3.J0 hl;rfl
  have WD:L2.Yn (L2.KOf KX) mg "added" Law.Zz ["one", "other"]:=by
   dsimp only[L2.KOf];refine' L2.Y0 KX G _ ?a ?l ?c ?k ?b;case a|l|c|k=>k_is
   case b=>intro _ _ _ _ _ _ us hl;obtain⟨_,_,rfl⟩:=L3.J0 hl;rfl
  have ky:L2.Yn (L2.KOf KX) mg "is_less" Law.J7 ["one", "other"]:=by
   dsimp only[L2.KOf];refine' L2.Y0 KX G _ ?a ?l ?c ?k ?b;case a|l|c|k=>k_is
   case b=>intro _ _ _ _ _ _ us hl;obtain⟨_,_,rfl⟩:=L3.J0 hl;rfl
  have Vg:L2.Yn (L2.KOf KX) mg "lessened" Law.Jx ["one", "other"]:=by
   dsimp only[L2.KOf];refine' L2.Y0 KX G _ ?a ?l ?c ?k ?b;case a|l|c|k=>k_is
   case b=>intro _ _ _ _ _ _ us hl;obtain⟨_,_,rfl⟩:=L3.J0 hl;rfl
  have Wt:L2.Yn (L2.KOf KX) mg "timed" Law.vN ["one", "other"]:=by
   dsimp only[L2.KOf];refine' L2.Y0 KX G _ ?a ?l ?c ?k ?b;case a|l|c|k=>k_is
   case b=>intro _ _ _ _ _ _ us hl;obtain⟨_,_,rfl⟩:=L3.J0 hl;rfl
  have uL:L2.Yn (L2.KOf KX) mg "parted" Law.Zf ["one", "other"]:=by
   dsimp only[L2.KOf];refine' L2.Y0 KX G _ ?a ?l ?c ?k ?b;case a|l|c|k=>k_is
   case b=>intro _ _ _ _ _ _ us hl;obtain⟨_,_,rfl⟩:=L3.J0 hl;rfl
  have Jn:L2.Yn (L2.KOf KX) mg "sum_of_products" Law.qx ["pairs"]:=by
   dsimp only[L2.KOf];refine' L2.Y0 KX G _ ?a ?l ?c ?k ?b;case a|l|c|k=>k_is
   case b=>intro _ _ _ _ _ _ us hl;obtain⟨_,rfl⟩:=L3.vU hl;rfl
  have ku:L2.Yn (L2.KOf KX) mg "cleared" Law.J8 ["row", "k"]:=by
   dsimp only[L2.KOf];refine' L2.Y0 KX G _ ?a ?l ?c ?k ?b;case a|l|c|k=>k_is
   case b=>intro _ _ _ _ _ _ us hl;obtain⟨_,_,rfl⟩:=L3.J0 hl;rfl
  have JH:L2.Yn (L2.KOf KX) mg "without_itself" Law.qG ["row", "k"]:=by
   dsimp only[L2.KOf];refine' L2.Y0 KX G _ ?a ?l ?c ?k ?b;case a|l|c|k=>k_is
   case b=>intro _ _ _ _ _ _ us hl;obtain⟨_,_,rfl⟩:=L3.J0 hl;rfl
  have uN:L2.Yn (L2.KOf KX) mg "put_in" Law.zl ["row", "k", "found"]:=by
   dsimp only[L2.KOf];refine' L2.Y0 KX G _ ?a ?l ?c ?k ?b;case a|l|c|k=>k_is
   case b=>intro _ _ _ _ _ _ us hl;obtain⟨_,_,_,rfl⟩:=L3.K4 hl;rfl
  have zZ:L2.Yn (L2.KOf KX) mg "solved_rows" Law.qI ["ways", "ends"]:=by
   dsimp only[L2.KOf];refine' L2.Y0 KX G _ ?a ?l ?c ?k ?b;case a|l|c|k=>k_is
   case b=>intro _ _ _ _ _ _ us hl;obtain⟨_,_,rfl⟩:=L3.J0 hl;rfl
  have Zb:L2.Yn (L2.KOf KX) mg "check_rules" Law.Q6 ["rules"]:=by
   dsimp only[L2.KOf];refine' L2.Y0 KX G _ ?a ?l ?c ?k ?b;case a|l|c|k=>k_is
   case b=>intro _ _ _ _ _ _ us hl;obtain⟨_,rfl⟩:=L3.vU hl;rfl
  have ZW:L2.Yn (L2.KOf KX) mg "check_rule" Law.jF ["rule"]:=by
   dsimp only[L2.KOf];refine' L2.Y0 KX G _ ?a ?l ?c ?k ?b;case a|l|c|k=>k_is
   case b=>intro _ _ _ _ _ _ us hl;obtain⟨_,rfl⟩:=L3.vU hl;rfl
  have zD:L2.Yn (L2.KOf KX) mg "check_symbol" Law.QT ["text"]:=by
   dsimp only[L2.KOf];refine' L2.Y0 KX G _ ?a ?l ?c ?k ?b;case a|l|c|k=>k_is
   case b=>intro _ _ _ _ _ _ us hl;obtain⟨_,rfl⟩:=L3.vU hl;rfl
  have vC:L2.Yn (L2.KOf KX) mg "is_symbol" Law.jx ["text"]:=by
   dsimp only[L2.KOf];refine' L2.Y0 KX G _ ?a ?l ?c ?k ?b;case a|l|c|k=>k_is
   case b=>intro _ _ _ _ _ _ us hl;obtain⟨_,rfl⟩:=L3.vU hl;rfl
  have vx:L2.Yn (L2.KOf KX) mg "is_letter" Law.j9 ["sign"]:=by
   dsimp only[L2.KOf];refine' L2.Y0 KX G _ ?a ?l ?c ?k ?b;case a|l|c|k=>k_is
   case b=>intro _ _ _ _ _ _ us hl;obtain⟨_,rfl⟩:=L3.vU hl;rfl
  have Za:L2.Yn (L2.KOf KX) mg "check_start" Law.Q5 ["start", "heads"]:=by
   dsimp only[L2.KOf];refine' L2.Y0 KX G _ ?a ?l ?c ?k ?b;case a|l|c|k=>k_is
   case b=>intro _ _ _ _ _ _ us hl;obtain⟨_,_,rfl⟩:=L3.J0 hl;rfl
  have ZZ:L2.Yn (L2.KOf KX) mg "check_sums" Law.jE ["heads", "rules"]:=by
   dsimp only[L2.KOf];refine' L2.Y0 KX G _ ?a ?l ?c ?k ?b;case a|l|c|k=>k_is
   case b=>intro _ _ _ _ _ _ us hl;obtain⟨_,_,rfl⟩:=L3.J0 hl;rfl
  have Vh:L2.Yn (L2.KOf KX) mg "heads_of" Law.JF ["rules"]:=by
   dsimp only[L2.KOf];refine' L2.Y0 KX G _ ?a ?l ?c ?k ?b;case a|l|c|k=>k_is
   case b=>intro _ _ _ _ _ _ us hl;obtain⟨_,rfl⟩:=L3.vU hl;rfl
  have kF:L2.Yn (L2.KOf KX) mg "live_of" Law.Jy ["heads", "rules"]:=by
   dsimp only[L2.KOf];refine' L2.Y0 KX G _ ?a ?l ?c ?k ?b;case a|l|c|k=>k_is
   case b=>intro _ _ _ _ _ _ us hl;obtain⟨_,_,rfl⟩:=L3.J0 hl;rfl
  have JR:L2.Yn (L2.KOf KX) mg "has_live_body" Law.qY ["head", "rules", "heads", "live"]:=by
   dsimp only[L2.KOf];refine' L2.Y0 KX G _ ?a ?l ?c ?k ?b;case a|l|c|k=>k_is
   case b=>intro _ _ _ _ _ _ us hl;obtain⟨_,_,_,_,rfl⟩:=L3.cu hl;rfl
  have zu:L2.Yn (L2.KOf KX) mg "is_live_body" Law.Qi ["body", "heads", "live"]:=by
   dsimp only[L2.KOf];refine' L2.Y0 KX G _ ?a ?l ?c ?k ?b;case a|l|c|k=>k_is
   case b=>intro _ _ _ _ _ _ us hl;obtain⟨_,_,_,rfl⟩:=L3.K4 hl;rfl
  have vG:L2.Yn (L2.KOf KX) mg "stretches" Law.jq ["row"]:=by
   dsimp only[L2.KOf];refine' L2.Y0 KX G _ ?a ?l ?c ?k ?b;case a|l|c|k=>k_is
   case b=>intro _ _ _ _ _ _ us hl;obtain⟨_,rfl⟩:=L3.vU hl;rfl
  have ZY:L2.Yn (L2.KOf KX) mg "live_rules" Law.jM ["grammar"]:=by
   dsimp only[L2.KOf];refine' L2.Y0 KX G _ ?a ?l ?c ?k ?b;case a|l|c|k=>k_is
   case b=>intro _ _ _ _ _ _ us hl;obtain⟨_,rfl⟩:=L3.vU hl;rfl
  have kC:L2.Yn (L2.KOf KX) mg "is_step" Law.Zn ["rule", "heads"]:=by
   dsimp only[L2.KOf];refine' L2.Y0 KX G _ ?a ?l ?c ?k ?b;case a|l|c|k=>k_is
   case b=>intro _ _ _ _ _ _ us hl;obtain⟨_,_,rfl⟩:=L3.J0 hl;rfl
  have vy:L2.Yn (L2.KOf KX) mg "chains_of" Law.js ["heads", "steps"]:=by
   dsimp only[L2.KOf];refine' L2.Y0 KX G _ ?a ?l ?c ?k ?b;case a|l|c|k=>k_is
   case b=>intro _ _ _ _ _ _ us hl;obtain⟨_,_,rfl⟩:=L3.J0 hl;rfl
  have uM:L2.Yn (L2.KOf KX) mg "likely" Law.vt ["grammar", "counted"]:=by
   dsimp only[L2.KOf];refine' L2.Y0 KX G _ ?a ?l ?c ?k ?b;case a|l|c|k=>k_is
   case b=>intro _ _ _ _ _ _ us hl;obtain⟨_,_,rfl⟩:=L3.J0 hl;rfl
  have uQ:L2.Yn (L2.KOf KX) mg "learnt" Law.vp ["grammar", "counted"]:=by
   dsimp only[L2.KOf];refine' L2.Y0 KX G _ ?a ?l ?c ?k ?b;case a|l|c|k=>k_is
   case b=>intro _ _ _ _ _ _ us hl;obtain⟨_,_,rfl⟩:=L3.J0 hl;rfl
  have vz:L2.Yn (L2.KOf KX) mg "counts_of" Law.jv ["grammar", "counted"]:=by
   dsimp only[L2.KOf];refine' L2.Y0 KX G _ ?a ?l ?c ?k ?b;case a|l|c|k=>k_is
   case b=>intro _ _ _ _ _ _ us hl;obtain⟨_,_,rfl⟩:=L3.J0 hl;rfl
  have zC:L2.Yn (L2.KOf KX) mg "sums_by_head" Law.jp ["rules", "counts"]:=by
   dsimp only[L2.KOf];refine' L2.Y0 KX G _ ?a ?l ?c ?k ?b;case a|l|c|k=>k_is
   case b=>intro _ _ _ _ _ _ us hl;obtain⟨_,_,rfl⟩:=L3.J0 hl;rfl
  have z9:L2.Yn (L2.KOf KX) mg "_law_cell_at" Law.jT ["_law_script", "_law_k"]:=by
   dsimp only[L2.KOf];refine' L2.Y0 KX G _ ?a ?l ?c ?k ?b;case a|l|c|k=>k_is
   case b=>intro _ _ _ _ _ _ us hl;obtain⟨_,_,rfl⟩:=L3.J0 hl;rfl
  have zX:L2.Yn (L2.KOf KX) mg "_law_symbols" Law.Q7 ["_law_cell", "_law_many"]:=by
   dsimp only[L2.KOf];refine' L2.Y0 KX G _ ?a ?l ?c ?k ?b;case a|l|c|k=>k_is
   case b=>intro _ _ _ _ _ _ us hl;obtain⟨_,_,rfl⟩:=L3.J0 hl;rfl
  have vE:L2.Yn (L2.KOf KX) mg "_law_share" Law.Jb ["_law_top", "_law_bottom"]:=by
   dsimp only[L2.KOf];refine' L2.Y0 KX G _ ?a ?l ?c ?k ?b;case a|l|c|k=>k_is
   case b=>intro _ _ _ _ _ _ us hl;obtain⟨_,_,rfl⟩:=L3.J0 hl;rfl
  have ZV:L2.Yn (L2.KOf KX) mg "_law_shared" Law.jN ["_law_parts"]:=by
   dsimp only[L2.KOf];refine' L2.Y0 KX G _ ?a ?l ?c ?k ?b;case a|l|c|k=>k_is
   case b=>intro _ _ _ _ _ _ us hl;obtain⟨_,rfl⟩:=L3.vU hl;rfl
  have tT:mg "len" = none:=by refine' PySem.W.mg_none_of KX G ?_;k_is
  have nu:mg "range" = none:=by refine' PySem.W.mg_none_of KX G ?_;k_is
  have rY:mg "list" = none:=by refine' PySem.W.mg_none_of KX G ?_;k_is
  have nv:mg "tuple" = none:=by refine' PySem.W.mg_none_of KX G ?_;k_is
  have tV:mg "int" = none:=by refine' PySem.W.mg_none_of KX G ?_;k_is
  have r6:mg "bool" = none:=by refine' PySem.W.mg_none_of KX G ?_;k_is
  have tN:mg "str" = none:=by refine' PySem.W.mg_none_of KX G ?_;k_is
  have rZ:mg "dict" = none:=by refine' PySem.W.mg_none_of KX G ?_;k_is
  have Wx:mg "isinstance" = none:=by refine' PySem.W.mg_none_of KX G ?_;k_is
  have tU:mg "sum" = none:=by refine' PySem.W.mg_none_of KX G ?_;k_is
  have xR:mg "enumerate" = none:=by refine' PySem.W.mg_none_of KX G ?_;k_is
  have tS:mg "zip" = none:=by refine' PySem.W.mg_none_of KX G ?_;k_is
  have Wv:mg "ValueError" = none:=by refine' PySem.W.mg_none_of KX G ?_;k_is
  have tQ:mg "all" = none:=by refine' PySem.W.mg_none_of KX G ?_;k_is
  have tR:mg "any" = none:=by refine' PySem.W.mg_none_of KX G ?_;k_is
  have aS:mg "reversed" = none:=by refine' PySem.W.mg_none_of KX G ?_;k_is
  have z:L3.Zs mg:=⟨tT,nu,rY,nv,tV,r6,tN,rZ,Wx,tU,xR,tS,Wv,tQ,tR,aS⟩
  have yF:L3.ql (L2.KOf KX) mg "NOUGHT" (L3.sh 0):=by
   dsimp only[L2.KOf];refine' L3.xg KX G ?a ?l
   case a|l=>k_is
  have jQ:L3.ql (L2.KOf KX) mg "ONE" (L3.sh 1):=by
   dsimp only[L2.KOf];refine' L3.xg KX G ?a ?l
   case a|l=>k_is
  have Jm:L3.ql (L2.KOf KX) mg "MOST_RULES" (.int 30):=by
   dsimp only[L2.KOf];refine' L3.Wl KX G ?a
   case a=>k_is
  have jy:L3.ql (L2.KOf KX) mg "MOST_SYMBOLS" (.int 4):=by
   dsimp only[L2.KOf];refine' L3.Wl KX G ?a
   case a=>k_is
  have Qk:L3.ql (L2.KOf KX) mg "MOST_LETTERS" (.int 8):=by
   dsimp only[L2.KOf];refine' L3.Wl KX G ?a
   case a=>k_is
  have cc_Grammar:∃ C,L3.ClsG (L2.KOf KX) C/\L2.zG (L2.KOf KX) mg "Grammar" C "Grammar.__init__" Law.qC ["self", "start", "rules"]/\L2.YD (L2.KOf KX) C "start" "Grammar.start" Law.Qu ["self"]/\L2.YD (L2.KOf KX) C "rules" "Grammar.rules" Law.Qr ["self"]/\L2.YD (L2.KOf KX) C "heads" "Grammar.heads" Law.Qt ["self"]/\L2.YD (L2.KOf KX) C "live" "Grammar.live" Law.QQ ["self"]:=by
   dsimp only[L2.KOf];refine' ⟨_,L3.mn ?pg ?hd ?po ?sa ?n0 ?n1 ?n2 ?n3,L2.wU KX G ["self", "start", "rules"] ?g ?a ?mk ?i ?kc ?l ?c ?k ?b,L2.QI ["self"] ?a0 ?i0 ?l0 ?c0 ?k0 ?b0,L2.QI ["self"] ?a1 ?i1 ?l1 ?c1 ?k1 ?b1,L2.QI ["self"] ?a2 ?i2 ?l2 ?c2 ?k2 ?b2,L2.QI ["self"] ?a3 ?i3 ?l3 ?c3 ?k3 ?b3⟩
   case g|a|mk|i|kc|l|c|k=>k_is
   (case b=>intro _ _ _ _ _ _ us hl;obtain⟨_,_,_,rfl⟩:=L3.K4 hl;rfl)
   case pg|hd|po|sa|n0|n1|n2|n3|a0|i0|l0|c0|k0=>k_is
   (case b0=>intro _ _ _ _ _ _ us hl;obtain⟨_,rfl⟩:=L3.vU hl;rfl)
   case a1|i1|l1|c1|k1=>k_is
   (case b1=>intro _ _ _ _ _ _ us hl;obtain⟨_,rfl⟩:=L3.vU hl;rfl)
   case a2|i2|l2|c2|k2=>k_is
   (case b2=>intro _ _ _ _ _ _ us hl;obtain⟨_,rfl⟩:=L3.vU hl;rfl)
   case a3|i3|l3|c3|k3=>k_is
   (case b3=>intro _ _ _ _ _ _ us hl;obtain⟨_,rfl⟩:=L3.vU hl;rfl)
  obtain⟨C_Grammar,yv,kB,JQ,JS,JU,zB⟩:=cc_Grammar;have cc_Sums:∃ C,L3.ClsS (L2.KOf KX) C/\L2.zG (L2.KOf KX) mg "Sums" C "Sums.__init__" Law.qz ["self", "grammar", "row"]/\L2.YD (L2.KOf KX) C "within" "Sums.within" Law.Q8 ["self", "head", "i", "j"]/\L2.YD (L2.KOf KX) C "whole" "Sums.whole" Law.jJ ["self"]/\L2.YD (L2.KOf KX) C "settle" "Sums.settle" Law.Qz ["self", "i", "j"]/\L2.YD (L2.KOf KX) C "ends_at" "Sums.ends_at" Law.QM ["self", "i", "j"]/\L2.YD (L2.KOf KX) C "worth" "Sums.worth" Law.jD ["self", "symbol", "i", "j"]/\L2.YD (L2.KOf KX) C "worth_of_body" "Sums.worth_of_body" Law.qo ["self", "body", "i", "j"]:=by
   dsimp only[L2.KOf];refine' ⟨_,L3.lD ?pg ?hd ?po ?sa ?n0 ?n1 ?n2 ?n3 ?n4 ?n5 ?n6,L2.wU KX G ["self", "grammar", "row"] ?g ?a ?mk ?i ?kc ?l ?c ?k ?b,L2.QI ["self", "head", "i", "j"] ?a0 ?i0 ?l0 ?c0 ?k0 ?b0,L2.QI ["self"] ?a1 ?i1 ?l1 ?c1 ?k1 ?b1,L2.QI ["self", "i", "j"] ?a2 ?i2 ?l2 ?c2 ?k2 ?b2,L2.QI ["self", "i", "j"] ?a3 ?i3 ?l3 ?c3 ?k3 ?b3,L2.QI ["self", "symbol", "i", "j"] ?a4 ?i4 ?l4 ?c4 ?k4 ?b4,L2.QI ["self", "body", "i", "j"] ?a5 ?i5 ?l5 ?c5 ?k5 ?b5⟩
   case g|a|mk|i|kc|l|c|k=>k_is
   (case b=>intro _ _ _ _ _ _ us hl;obtain⟨_,_,_,rfl⟩:=L3.K4 hl;rfl)
   case pg|hd|po|sa|n0|n1|n2|n3|n4|n5|n6|a0|i0|l0|c0|k0=>k_is
   (case b0=>intro _ _ _ _ _ _ us hl;obtain⟨_,_,_,_,rfl⟩:=L3.cu hl;rfl)
   case a1|i1|l1|c1|k1=>k_is
   (case b1=>intro _ _ _ _ _ _ us hl;obtain⟨_,rfl⟩:=L3.vU hl;rfl)
   case a2|i2|l2|c2|k2=>k_is
   (case b2=>intro _ _ _ _ _ _ us hl;obtain⟨_,_,_,rfl⟩:=L3.K4 hl;rfl)
   case a3|i3|l3|c3|k3=>k_is
   (case b3=>intro _ _ _ _ _ _ us hl;obtain⟨_,_,_,rfl⟩:=L3.K4 hl;rfl)
   case a4|i4|l4|c4|k4=>k_is
   (case b4=>intro _ _ _ _ _ _ us hl;obtain⟨_,_,_,_,rfl⟩:=L3.cu hl;rfl)
   case a5|i5|l5|c5|k5=>k_is
   (case b5=>intro _ _ _ _ _ _ us hl;obtain⟨_,_,_,_,rfl⟩:=L3.cu hl;rfl)
  obtain⟨C_Sums,yR,aT,z0,ZQ,zW,zy,ZT,jA⟩:=cc_Sums;have cc_Parts:∃ C,L3.ClsP (L2.KOf KX) C/\L2.zG (L2.KOf KX) mg "Parts" C "Parts.__init__" Law.QN ["self", "grammar", "row"]/\L2.YD (L2.KOf KX) C "beyond" "Parts.beyond" Law.jt ["self", "head", "i", "j"]/\L2.YD (L2.KOf KX) C "hand" "Parts.hand" Law.Jj ["self", "body", "i", "j", "pair"]/\L2.YD (L2.KOf KX) C "hand_to_heads" "Parts.hand_to_heads" Law.Y9 ["self", "i", "j"]/\L2.YD (L2.KOf KX) C "hand_to_bodies" "Parts.hand_to_bodies" Law.qu ["self", "i", "j"]/\L2.YD (L2.KOf KX) C "hand_within_bodies" "Parts.hand_within_bodies" Law.Yv ["self", "i", "j"]/\L2.YD (L2.KOf KX) C "uses" "Parts.uses" Law.jH ["self", "rule"]:=by
   dsimp only[L2.KOf];refine' ⟨_,L3.lM ?pg ?hd ?po ?sa ?n0 ?n1 ?n2 ?n3 ?n4,L2.wU KX G ["self", "grammar", "row"] ?g ?a ?mk ?i ?kc ?l ?c ?k ?b,L2.QI ["self", "head", "i", "j"] ?a0 ?i0 ?l0 ?c0 ?k0 ?b0,L2.QI ["self", "body", "i", "j", "pair"] ?a1 ?i1 ?l1 ?c1 ?k1 ?b1,L2.QI ["self", "i", "j"] ?a2 ?i2 ?l2 ?c2 ?k2 ?b2,L2.QI ["self", "i", "j"] ?a3 ?i3 ?l3 ?c3 ?k3 ?b3,L2.QI ["self", "i", "j"] ?a4 ?i4 ?l4 ?c4 ?k4 ?b4,L2.QI ["self", "rule"] ?a5 ?i5 ?l5 ?c5 ?k5 ?b5⟩
   case g|a|mk|i|kc|l|c|k=>k_is
   (case b=>intro _ _ _ _ _ _ us hl;obtain⟨_,_,_,rfl⟩:=L3.K4 hl;rfl)
   case pg|hd|po|sa|n0|n1|n2|n3|n4|a0|i0|l0|c0|k0=>k_is
   (case b0=>intro _ _ _ _ _ _ us hl;obtain⟨_,_,_,_,rfl⟩:=L3.cu hl;rfl)
   case a1|i1|l1|c1|k1=>k_is
   (case b1=>intro _ _ _ _ _ _ us hl;obtain⟨_,_,_,_,_,rfl⟩:=L3.Ab hl;rfl)
   case a2|i2|l2|c2|k2=>k_is
   (case b2=>intro _ _ _ _ _ _ us hl;obtain⟨_,_,_,rfl⟩:=L3.K4 hl;rfl)
   case a3|i3|l3|c3|k3=>k_is
   (case b3=>intro _ _ _ _ _ _ us hl;obtain⟨_,_,_,rfl⟩:=L3.K4 hl;rfl)
   case a4|i4|l4|c4|k4=>k_is
   (case b4=>intro _ _ _ _ _ _ us hl;obtain⟨_,_,_,rfl⟩:=L3.K4 hl;rfl)
   case a5|i5|l5|c5|k5=>k_is
   (case b5=>intro _ _ _ _ _ _ us hl;obtain⟨_,_,rfl⟩:=L3.J0 hl;rfl)
  obtain⟨C_Parts,yH,Ww,zw,ZX,jb,QZ,Qj,ZR⟩:=cc_Parts;refine' L2.oy (st:=Law.Z6) KX G hmg ?a ?l ?c ?k ?b ?ok
  (case a=>k_is);(case l=>k_is);(case c=>k_is);(case k=>k_is)
  (case b=>exact fun _=>rfl)
  (case ok=>
   intro fd base kb nb F;exact Law.lK rfl z yF jQ Jm jy Qk yv kB JQ JS JU zB yR aT z0 ZQ zW zy ZT jA yH Ww zw ZX jb QZ Qj ZR JG WB WD ky Vg Wt uL Jn ku JH uN zZ Zb ZW zD vC vx Za ZZ Vh kF JR zu vG ZY kC vy uM uQ vz zC z9 zX vE ZV F)
