import PyProof.Rows.All
import Wide.All
import OpenK.AllK
import Wide.FinOn
import Lean
import PyProof.EqAt
import PyProof.EqKinds
import PyProof.TupleCall
import PyProof.NeKinds
import PyProof.EnumStmt
import PyProof.ZipIter
import PyProof.Rows.ZipGen
import PyProof.EnumFor
import PyProof.ConsumeWalk
import PyProof.StrWalks
import PyProof.FString5
import PyProof.TupleKey
import PyProof.DictRoadsH
import PyProof.Rows.TupTab
import PyProof.ReprStr
import PyProof.StrLawsRepr
import PyProof.ListMulRoad
import PyProof.StrOps2
import PyProof.WalksMore
import PyProof.ListNew
import PyProof.TupleIter
import PyProof.AttrMissHeap
import PySem.Challenge.RW_scoreflow_k08_rings_of_two
set_option compiler.extract_closed false
set_option Elab.async false
set_option linter.all false
set_option maxRecDepth 100000
namespace L2
open PySem
def inClass (s : Stmt) (j : Nat) : Stmt := match s with
  | .ClassDef _ _ _ body _ _ _ _ _ _ _ => body.getD j (.Pass ⟨0, 0, 0, 0⟩)
  | _ => .Pass ⟨0, 0, 0, 0⟩
def defArgs (s : Stmt) : Arguments := match s with
  | .FunctionDef _ a _ _ _ _ _ _ _ _ => a
  | _ => { posonlyargs := [], args := [], vararg := none, kwonlyargs := [], kw_defaults := [], kwarg := none, defaults := [] }
def defBody (s : Stmt) : List Stmt := match s with
  | .FunctionDef _ _ b _ _ _ _ _ _ _ => b
  | _ => []
def defScope (s : Stmt) : Scope := match s with
  | .FunctionDef _ _ _ _ _ _ sc _ _ _ => sc
  | _ => { kind := .function, names := [], isGenerator := false, isCoroutine := false }
end L2
namespace Law
open PySem L2
def top (i : Nat) : Stmt := PySem.Challenge.pw_scoreflow_k08_rings_of_two.main.body.getD i (.Pass ⟨0, 0, 0, 0⟩)
abbrev s_common_divisor : Stmt := top 8
abbrev s_share : Stmt := top 9
abbrev s_added : Stmt := top 10
abbrev s_lessened : Stmt := top 11
abbrev s_timed : Stmt := top 12
abbrev s_parted : Stmt := top 13
abbrev s_sum_of_products : Stmt := top 14
abbrev s_is_less : Stmt := top 15
abbrev s_Grammar___init__ : Stmt := inClass (top 20) 0
abbrev s_Grammar_start : Stmt := inClass (top 20) 1
abbrev s_Grammar_rules : Stmt := inClass (top 20) 2
abbrev s_Grammar_heads : Stmt := inClass (top 20) 3
abbrev s_Grammar_live : Stmt := inClass (top 20) 4
abbrev s_check_rules : Stmt := top 21
abbrev s_check_rule : Stmt := top 22
abbrev s_check_symbol : Stmt := top 23
abbrev s_is_symbol : Stmt := top 24
abbrev s_is_letter : Stmt := top 25
abbrev s_check_start : Stmt := top 26
abbrev s_check_sums : Stmt := top 27
abbrev s_heads_of : Stmt := top 28
abbrev s_live_of : Stmt := top 29
abbrev s_has_live_body : Stmt := top 30
abbrev s_is_live_body : Stmt := top 31
abbrev s_stretches : Stmt := top 33
abbrev s_solved_rows : Stmt := top 35
abbrev s_without_itself : Stmt := top 36
abbrev s_put_in : Stmt := top 37
abbrev s_cleared : Stmt := top 38
abbrev s_Sums___init__ : Stmt := inClass (top 40) 0
abbrev s_Sums_within : Stmt := inClass (top 40) 1
abbrev s_Sums_whole : Stmt := inClass (top 40) 2
abbrev s_Sums_settle : Stmt := inClass (top 40) 3
abbrev s_Sums_ends_at : Stmt := inClass (top 40) 4
abbrev s_Sums_worth : Stmt := inClass (top 40) 5
abbrev s_Sums_worth_of_body : Stmt := inClass (top 40) 6
abbrev s_Sums_sum_of_partings : Stmt := inClass (top 40) 7
abbrev s_live_rules : Stmt := top 41
abbrev s_is_step : Stmt := top 42
abbrev s_chains_of : Stmt := top 43
abbrev s_law_cell_at : Stmt := top 45
abbrev s_law_whole : Stmt := top 46
abbrev s_law_symbols : Stmt := top 47
abbrev s_law_share : Stmt := top 48
abbrev s_law_added : Stmt := top 49
abbrev s_law_timed : Stmt := top 50
abbrev s_law_is_share : Stmt := top 51
abbrev s_law_near : Stmt := top 52
abbrev s_law : Stmt := top 53
def en (P : Params) (x : Str) (t : Nat) (v : Value) : DictEntry := { hash := PyData.keyHash P x, key := .str x t, val := v }
def KP : Params → PySem.W.Frag := fun P =>
  (nat_lit 2, { cls := .none, data := .dict #[] }) ::
  (nat_lit 3, { cls := .type "dict", data := .dict #[en P "__name__" 165 (.str "law_scoreflow_k08_rings_of_two" 650), en P "__doc__" 166 (.none), en P "__package__" 167 (.none), en P "__loader__" 168 (.builtin "__main__.__loader__#opaque"), en P "__spec__" 169 (.none), en P "__annotations__" 170 (.ref 6), en P "__builtins__" 171 (.ref 4), en P "__file__" 173 (.str "/claim/cut.py" 172), en P "__cached__" 174 (.none), en P "ScoreError" 206 (.ref 24), en P "NoShare" 222 (.ref 37), en P "NoEnd" 238 (.ref 49), en P "NoGrammar" 254 (.ref 61), en P "NOUGHT" 259 (.ref 64), en P "ONE" 262 (.ref 65), en P "common_divisor" 271 (.ref 72), en P "share" 280 (.ref 79), en P "added" 291 (.ref 86), en P "lessened" 299 (.ref 93), en P "timed" 309 (.ref 100), en P "parted" 317 (.ref 107), en P "sum_of_products" 330 (.ref 114), en P "is_less" 338 (.ref 121), en P "MOST_RULES" 342 (.int 30 341), en P "MOST_SYMBOLS" 344 (.int 4 343), en P "MOST_LETTERS" 346 (.int 8 345), en P "Grammar" 407 (.ref 166), en P "check_rules" 416 (.ref 177), en P "check_rule" 424 (.ref 184), en P "check_symbol" 431 (.ref 191), en P "is_symbol" 437 (.ref 196), en P "is_letter" 444 (.ref 203), en P "check_start" 452 (.ref 210), en P "check_sums" 463 (.ref 217), en P "heads_of" 472 (.ref 224), en P "live_of" 478 (.ref 229), en P "has_live_body" 484 (.ref 234), en P "is_live_body" 490 (.ref 239), en P "stretches" 498 (.ref 244), en P "solved_rows" 506 (.ref 249), en P "without_itself" 512 (.ref 254), en P "put_in" 518 (.ref 259), en P "cleared" 526 (.ref 266), en P "Sums" 629 (.ref 328), en P "live_rules" 635 (.ref 337), en P "is_step" 643 (.ref 344), en P "chains_of" 649 (.ref 349), en P "_law_cell_at" 659 (.ref 356), en P "_law_whole" 666 (.ref 363), en P "_law_symbols" 682 (.ref 370), en P "_law_share" 693 (.ref 377), en P "_law_added" 701 (.ref 384), en P "_law_timed" 709 (.ref 391), en P "_law_is_share" 716 (.ref 398), en P "_law_near" 729 (.ref 405), en P "law" 735 (.ref 410)] 56 }) ::
  (nat_lit 23, { cls := .type "dict", data := .dict #[en P "__module__" 196 (.str "scoreflow.errors" 187), en P "__firstlineno__" 200 (.int 2 199), en P "__static_attributes__" 201 (.ref 22), en P "__weakref__" 203 (.ref 25), en P "__doc__" 204 (.none)] 3 }) ::
  (nat_lit 24, { cls := .type "type", data := .cls { name := "ScoreError", bases := [.type "ValueError"], mro := [.ref 24, .type "ValueError", .type "Exception", .type "BaseException", .type "object"], ns := 23, qualname := "ScoreError", subclasses := [.ref 37, .ref 49, .ref 61] }, slots := #[.some (.ref 15), .none, .some (.str "ScoreError" 189), .some (.str "ScoreError" 197), .some (.builtin "ValueError.__new__"), .some (.bool Bool.true)] }) ::
  (nat_lit 25, { cls := .type "getset_descriptor", data := .fields #[.str "__weakref__" 202, .ref 24, .builtin "ExceptionGroup.__weakref__", .none] }) ::
  (nat_lit 36, { cls := .type "dict", data := .dict #[en P "__module__" 214 (.str "scoreflow.errors" 187), en P "__firstlineno__" 218 (.int 4 217), en P "__static_attributes__" 219 (.ref 35), en P "__doc__" 220 (.none)] 2 }) ::
  (nat_lit 37, { cls := .type "type", data := .cls { name := "NoShare", bases := [.ref 24], mro := [.ref 37, .ref 24, .type "ValueError", .type "Exception", .type "BaseException", .type "object"], ns := 36, qualname := "NoShare" }, slots := #[.some (.ref 28), .none, .some (.str "NoShare" 207), .some (.str "NoShare" 215), .some (.builtin "ValueError.__new__"), .some (.bool Bool.true)] }) ::
  (nat_lit 48, { cls := .type "dict", data := .dict #[en P "__module__" 230 (.str "scoreflow.errors" 187), en P "__firstlineno__" 234 (.int 6 233), en P "__static_attributes__" 235 (.ref 47), en P "__doc__" 236 (.none)] 2 }) ::
  (nat_lit 49, { cls := .type "type", data := .cls { name := "NoEnd", bases := [.ref 24], mro := [.ref 49, .ref 24, .type "ValueError", .type "Exception", .type "BaseException", .type "object"], ns := 48, qualname := "NoEnd" }, slots := #[.some (.ref 40), .none, .some (.str "NoEnd" 223), .some (.str "NoEnd" 231), .some (.builtin "ValueError.__new__"), .some (.bool Bool.true)] }) ::
  (nat_lit 60, { cls := .type "dict", data := .dict #[en P "__module__" 246 (.str "scoreflow.errors" 187), en P "__firstlineno__" 250 (.int 8 249), en P "__static_attributes__" 251 (.ref 59), en P "__doc__" 252 (.none)] 2 }) ::
  (nat_lit 61, { cls := .type "type", data := .cls { name := "NoGrammar", bases := [.ref 24], mro := [.ref 61, .ref 24, .type "ValueError", .type "Exception", .type "BaseException", .type "object"], ns := 60, qualname := "NoGrammar" }, slots := #[.some (.ref 52), .none, .some (.str "NoGrammar" 239), .some (.str "NoGrammar" 247), .some (.builtin "ValueError.__new__"), .some (.bool Bool.true)] }) ::
  (nat_lit 64, { cls := .type "tuple", data := .seq #[.int 0 257, .int 1 258] }) ::
  (nat_lit 65, { cls := .type "tuple", data := .seq #[.int 1 260, .int 1 261] }) ::
  (nat_lit 71, { cls := .type "code", data := .fields #[.str "common_divisor" 263, .str "common_divisor" 264, .str "/claim/cut.py" 265, .int 13 0, .int 2 0, .int 0 0, .int 0 0, .int 3 0, .ref 66, .bool Bool.true, .int 181 0, .ref 67, .none, .ref 68, .ref 69, .ref 70, .int 269 0, .int 13 0, .str "/claim/cut.py" 270] }) ::
  (nat_lit 72, { cls := .type "function", dict := .none, data := .func (PySem.W.fnOf ("common_divisor") ("common_divisor") (L2.defArgs s_common_divisor) (L2.defBody s_common_divisor) (L2.defScope s_common_divisor) .none .none .none (.str "scoreflow.shares" 255) .none (.ref 71) .none), slots := #[] }) ::
  (nat_lit 78, { cls := .type "code", data := .fields #[.str "share" 272, .str "share" 273, .str "/claim/cut.py" 274, .int 19 0, .int 2 0, .int 0 0, .int 0 0, .int 3 0, .ref 73, .bool Bool.true, .int 181 0, .ref 74, .none, .ref 75, .ref 76, .ref 77, .int 278 0, .int 19 0, .str "/claim/cut.py" 279] }) ::
  (nat_lit 79, { cls := .type "function", dict := .none, data := .func (PySem.W.fnOf ("share") ("share") (L2.defArgs s_share) (L2.defBody s_share) (L2.defScope s_share) .none .none .none (.str "scoreflow.shares" 255) .none (.ref 78) .none), slots := #[] }) ::
  (nat_lit 85, { cls := .type "code", data := .fields #[.str "added" 281, .str "added" 282, .str "/claim/cut.py" 283, .int 26 0, .int 2 0, .int 0 0, .int 0 0, .int 3 0, .ref 80, .bool Bool.true, .int 181 0, .ref 81, .none, .ref 82, .ref 83, .ref 84, .int 289 0, .int 26 0, .str "/claim/cut.py" 290] }) ::
  (nat_lit 86, { cls := .type "function", dict := .none, data := .func (PySem.W.fnOf ("added") ("added") (L2.defArgs s_added) (L2.defBody s_added) (L2.defScope s_added) .none .none .none (.str "scoreflow.shares" 255) .none (.ref 85) .none), slots := #[] }) ::
  (nat_lit 92, { cls := .type "code", data := .fields #[.str "lessened" 292, .str "lessened" 293, .str "/claim/cut.py" 294, .int 31 0, .int 2 0, .int 0 0, .int 0 0, .int 3 0, .ref 87, .bool Bool.true, .int 181 0, .ref 88, .none, .ref 89, .ref 90, .ref 91, .int 297 0, .int 31 0, .str "/claim/cut.py" 298] }) ::
  (nat_lit 93, { cls := .type "function", dict := .none, data := .func (PySem.W.fnOf ("lessened") ("lessened") (L2.defArgs s_lessened) (L2.defBody s_lessened) (L2.defScope s_lessened) .none .none .none (.str "scoreflow.shares" 255) .none (.ref 92) .none), slots := #[] }) ::
  (nat_lit 99, { cls := .type "code", data := .fields #[.str "timed" 300, .str "timed" 301, .str "/claim/cut.py" 302, .int 35 0, .int 2 0, .int 0 0, .int 0 0, .int 3 0, .ref 94, .bool Bool.true, .int 181 0, .ref 95, .none, .ref 96, .ref 97, .ref 98, .int 307 0, .int 35 0, .str "/claim/cut.py" 308] }) ::
  (nat_lit 100, { cls := .type "function", dict := .none, data := .func (PySem.W.fnOf ("timed") ("timed") (L2.defArgs s_timed) (L2.defBody s_timed) (L2.defScope s_timed) .none .none .none (.str "scoreflow.shares" 255) .none (.ref 99) .none), slots := #[] }) ::
  (nat_lit 106, { cls := .type "code", data := .fields #[.str "parted" 310, .str "parted" 311, .str "/claim/cut.py" 312, .int 39 0, .int 2 0, .int 0 0, .int 0 0, .int 3 0, .ref 101, .bool Bool.true, .int 181 0, .ref 102, .none, .ref 103, .ref 104, .ref 105, .int 315 0, .int 39 0, .str "/claim/cut.py" 316] }) ::
  (nat_lit 107, { cls := .type "function", dict := .none, data := .func (PySem.W.fnOf ("parted") ("parted") (L2.defArgs s_parted) (L2.defBody s_parted) (L2.defScope s_parted) .none .none .none (.str "scoreflow.shares" 255) .none (.ref 106) .none), slots := #[] }) ::
  (nat_lit 113, { cls := .type "code", data := .fields #[.str "sum_of_products" 318, .str "sum_of_products" 319, .str "/claim/cut.py" 320, .int 43 0, .int 1 0, .int 0 0, .int 0 0, .int 3 0, .ref 108, .bool Bool.true, .int 181 0, .ref 109, .none, .ref 110, .ref 111, .ref 112, .int 328 0, .int 43 0, .str "/claim/cut.py" 329] }) ::
  (nat_lit 114, { cls := .type "function", dict := .none, data := .func (PySem.W.fnOf ("sum_of_products") ("sum_of_products") (L2.defArgs s_sum_of_products) (L2.defBody s_sum_of_products) (L2.defScope s_sum_of_products) .none .none .none (.str "scoreflow.shares" 255) .none (.ref 113) .none), slots := #[] }) ::
  (nat_lit 120, { cls := .type "code", data := .fields #[.str "is_less" 331, .str "is_less" 332, .str "/claim/cut.py" 333, .int 53 0, .int 2 0, .int 0 0, .int 0 0, .int 3 0, .ref 115, .bool Bool.true, .int 181 0, .ref 116, .none, .ref 117, .ref 118, .ref 119, .int 336 0, .int 53 0, .str "/claim/cut.py" 337] }) ::
  (nat_lit 121, { cls := .type "function", dict := .none, data := .func (PySem.W.fnOf ("is_less") ("is_less") (L2.defArgs s_is_less) (L2.defBody s_is_less) (L2.defScope s_is_less) .none .none .none (.str "scoreflow.shares" 255) .none (.ref 120) .none), slots := #[] }) ::
  (nat_lit 134, { cls := .type "code", data := .fields #[.str "__init__" 359, .str "Grammar.__init__" 360, .str "/claim/cut.py" 361, .int 61 0, .int 3 0, .int 0 0, .int 0 0, .int 3 0, .ref 129, .bool Bool.true, .int 181 0, .ref 130, .none, .ref 131, .ref 132, .ref 133, .int 365 0, .int 61 0, .str "/claim/cut.py" 366] }) ::
  (nat_lit 135, { cls := .type "function", dict := .none, data := .func (PySem.W.fnOf ("__init__") ("Grammar.__init__") (L2.defArgs s_Grammar___init__) (L2.defBody s_Grammar___init__) (L2.defScope s_Grammar___init__) .none .none .none (.str "scoreflow.grammar" 339) .none (.ref 134) .none), slots := #[] }) ::
  (nat_lit 141, { cls := .type "code", data := .fields #[.str "start" 368, .str "Grammar.start" 369, .str "/claim/cut.py" 370, .int 70 0, .int 1 0, .int 0 0, .int 0 0, .int 3 0, .ref 136, .bool Bool.true, .int 181 0, .ref 137, .none, .ref 138, .ref 139, .ref 140, .int 372 0, .int 70 0, .str "/claim/cut.py" 373] }) ::
  (nat_lit 142, { cls := .type "function", dict := .none, data := .func (PySem.W.fnOf ("start") ("Grammar.start") (L2.defArgs s_Grammar_start) (L2.defBody s_Grammar_start) (L2.defScope s_Grammar_start) .none .none .none (.str "scoreflow.grammar" 339) .none (.ref 141) .none), slots := #[] }) ::
  (nat_lit 148, { cls := .type "code", data := .fields #[.str "rules" 375, .str "Grammar.rules" 376, .str "/claim/cut.py" 377, .int 73 0, .int 1 0, .int 0 0, .int 0 0, .int 3 0, .ref 143, .bool Bool.true, .int 181 0, .ref 144, .none, .ref 145, .ref 146, .ref 147, .int 379 0, .int 73 0, .str "/claim/cut.py" 380] }) ::
  (nat_lit 149, { cls := .type "function", dict := .none, data := .func (PySem.W.fnOf ("rules") ("Grammar.rules") (L2.defArgs s_Grammar_rules) (L2.defBody s_Grammar_rules) (L2.defScope s_Grammar_rules) .none .none .none (.str "scoreflow.grammar" 339) .none (.ref 148) .none), slots := #[] }) ::
  (nat_lit 155, { cls := .type "code", data := .fields #[.str "heads" 382, .str "Grammar.heads" 383, .str "/claim/cut.py" 384, .int 76 0, .int 1 0, .int 0 0, .int 0 0, .int 3 0, .ref 150, .bool Bool.true, .int 181 0, .ref 151, .none, .ref 152, .ref 153, .ref 154, .int 386 0, .int 76 0, .str "/claim/cut.py" 387] }) ::
  (nat_lit 156, { cls := .type "function", dict := .none, data := .func (PySem.W.fnOf ("heads") ("Grammar.heads") (L2.defArgs s_Grammar_heads) (L2.defBody s_Grammar_heads) (L2.defScope s_Grammar_heads) .none .none .none (.str "scoreflow.grammar" 339) .none (.ref 155) .none), slots := #[] }) ::
  (nat_lit 162, { cls := .type "code", data := .fields #[.str "live" 389, .str "Grammar.live" 390, .str "/claim/cut.py" 391, .int 79 0, .int 1 0, .int 0 0, .int 0 0, .int 3 0, .ref 157, .bool Bool.true, .int 181 0, .ref 158, .none, .ref 159, .ref 160, .ref 161, .int 393 0, .int 79 0, .str "/claim/cut.py" 394] }) ::
  (nat_lit 163, { cls := .type "function", dict := .none, data := .func (PySem.W.fnOf ("live") ("Grammar.live") (L2.defArgs s_Grammar_live) (L2.defBody s_Grammar_live) (L2.defScope s_Grammar_live) .none .none .none (.str "scoreflow.grammar" 339) .none (.ref 162) .none), slots := #[] }) ::
  (nat_lit 165, { cls := .type "dict", data := .dict #[en P "__module__" 354 (.str "scoreflow.grammar" 339), en P "__firstlineno__" 358 (.int 59 357), en P "__init__" 367 (.ref 135), en P "start" 374 (.ref 142), en P "rules" 381 (.ref 149), en P "heads" 388 (.ref 156), en P "live" 395 (.ref 163), en P "__static_attributes__" 400 (.ref 164), en P "__dict__" 402 (.ref 167), en P "__weakref__" 404 (.ref 168), en P "__doc__" 405 (.none)] 4 }) ::
  (nat_lit 166, { cls := .type "type", data := .cls { name := "Grammar", bases := [.type "object"], mro := [.ref 166, .type "object"], ns := 165, qualname := "Grammar" }, slots := #[.none, .none, .some (.str "Grammar" 347), .some (.str "Grammar" 355), .some (.builtin "object.__new__"), .some (.bool Bool.true)] }) ::
  (nat_lit 167, { cls := .type "getset_descriptor", data := .fields #[.str "__dict__" 401, .ref 166, .builtin "function.__dict__", .builtin "function.__dict__#set"] }) ::
  (nat_lit 168, { cls := .type "getset_descriptor", data := .fields #[.str "__weakref__" 403, .ref 166, .builtin "ExceptionGroup.__weakref__", .none] }) ::
  (nat_lit 176, { cls := .type "code", data := .fields #[.str "check_rules" 408, .str "check_rules" 409, .str "/claim/cut.py" 410, .int 81 0, .int 1 0, .int 0 0, .int 0 0, .int 3 0, .ref 171, .bool Bool.true, .int 181 0, .ref 172, .none, .ref 173, .ref 174, .ref 175, .int 414 0, .int 81 0, .str "/claim/cut.py" 415] }) ::
  (nat_lit 177, { cls := .type "function", dict := .none, data := .func (PySem.W.fnOf ("check_rules") ("check_rules") (L2.defArgs s_check_rules) (L2.defBody s_check_rules) (L2.defScope s_check_rules) .none .none .none (.str "scoreflow.grammar" 339) .none (.ref 176) .none), slots := #[] }) ::
  (nat_lit 183, { cls := .type "code", data := .fields #[.str "check_rule" 417, .str "check_rule" 418, .str "/claim/cut.py" 419, .int 90 0, .int 1 0, .int 0 0, .int 0 0, .int 3 0, .ref 178, .bool Bool.true, .int 181 0, .ref 179, .none, .ref 180, .ref 181, .ref 182, .int 422 0, .int 90 0, .str "/claim/cut.py" 423] }) ::
  (nat_lit 184, { cls := .type "function", dict := .none, data := .func (PySem.W.fnOf ("check_rule") ("check_rule") (L2.defArgs s_check_rule) (L2.defBody s_check_rule) (L2.defScope s_check_rule) .none .none .none (.str "scoreflow.grammar" 339) .none (.ref 183) .none), slots := #[] }) ::
  (nat_lit 190, { cls := .type "code", data := .fields #[.str "check_symbol" 425, .str "check_symbol" 426, .str "/claim/cut.py" 427, .int 98 0, .int 1 0, .int 0 0, .int 0 0, .int 3 0, .ref 185, .bool Bool.true, .int 181 0, .ref 186, .none, .ref 187, .ref 188, .ref 189, .int 429 0, .int 98 0, .str "/claim/cut.py" 430] }) ::
  (nat_lit 191, { cls := .type "function", dict := .none, data := .func (PySem.W.fnOf ("check_symbol") ("check_symbol") (L2.defArgs s_check_symbol) (L2.defBody s_check_symbol) (L2.defScope s_check_symbol) .none .none .none (.str "scoreflow.grammar" 339) .none (.ref 190) .none), slots := #[] }) ::
  (nat_lit 195, { cls := .type "code", data := .fields #[.str "is_symbol" 432, .str "is_symbol" 433, .str "/claim/cut.py" 434, .int 101 0, .int 1 0, .int 0 0, .int 0 0, .int 3 0, .ref 192, .bool Bool.true, .int 181 0, .ref 193, .none, .none, .none, .ref 194, .int 435 0, .int 101 0, .str "/claim/cut.py" 436] }) ::
  (nat_lit 196, { cls := .type "function", dict := .none, data := .func (PySem.W.fnOf ("is_symbol") ("is_symbol") (L2.defArgs s_is_symbol) (L2.defBody s_is_symbol) (L2.defScope s_is_symbol) .none .none .none (.str "scoreflow.grammar" 339) .none (.ref 195) .none), slots := #[] }) ::
  (nat_lit 202, { cls := .type "code", data := .fields #[.str "is_letter" 438, .str "is_letter" 439, .str "/claim/cut.py" 440, .int 103 0, .int 1 0, .int 0 0, .int 0 0, .int 3 0, .ref 197, .bool Bool.true, .int 181 0, .ref 198, .none, .ref 199, .ref 200, .ref 201, .int 442 0, .int 103 0, .str "/claim/cut.py" 443] }) ::
  (nat_lit 203, { cls := .type "function", dict := .none, data := .func (PySem.W.fnOf ("is_letter") ("is_letter") (L2.defArgs s_is_letter) (L2.defBody s_is_letter) (L2.defScope s_is_letter) .none .none .none (.str "scoreflow.grammar" 339) .none (.ref 202) .none), slots := #[] }) ::
  (nat_lit 209, { cls := .type "code", data := .fields #[.str "check_start" 445, .str "check_start" 446, .str "/claim/cut.py" 447, .int 105 0, .int 2 0, .int 0 0, .int 0 0, .int 3 0, .ref 204, .bool Bool.true, .int 181 0, .ref 205, .none, .ref 206, .ref 207, .ref 208, .int 450 0, .int 105 0, .str "/claim/cut.py" 451] }) ::
  (nat_lit 210, { cls := .type "function", dict := .none, data := .func (PySem.W.fnOf ("check_start") ("check_start") (L2.defArgs s_check_start) (L2.defBody s_check_start) (L2.defScope s_check_start) .none .none .none (.str "scoreflow.grammar" 339) .none (.ref 209) .none), slots := #[] }) ::
  (nat_lit 216, { cls := .type "code", data := .fields #[.str "check_sums" 453, .str "check_sums" 454, .str "/claim/cut.py" 455, .int 108 0, .int 2 0, .int 0 0, .int 0 0, .int 3 0, .ref 211, .bool Bool.true, .int 181 0, .ref 212, .none, .ref 213, .ref 214, .ref 215, .int 461 0, .int 108 0, .str "/claim/cut.py" 462] }) ::
  (nat_lit 217, { cls := .type "function", dict := .none, data := .func (PySem.W.fnOf ("check_sums") ("check_sums") (L2.defArgs s_check_sums) (L2.defBody s_check_sums) (L2.defScope s_check_sums) .none .none .none (.str "scoreflow.grammar" 339) .none (.ref 216) .none), slots := #[] }) ::
  (nat_lit 223, { cls := .type "code", data := .fields #[.str "heads_of" 464, .str "heads_of" 465, .str "/claim/cut.py" 466, .int 116 0, .int 1 0, .int 0 0, .int 0 0, .int 3 0, .ref 218, .bool Bool.true, .int 181 0, .ref 219, .none, .ref 220, .ref 221, .ref 222, .int 470 0, .int 116 0, .str "/claim/cut.py" 471] }) ::
  (nat_lit 224, { cls := .type "function", dict := .none, data := .func (PySem.W.fnOf ("heads_of") ("heads_of") (L2.defArgs s_heads_of) (L2.defBody s_heads_of) (L2.defScope s_heads_of) .none .none .none (.str "scoreflow.grammar" 339) .none (.ref 223) .none), slots := #[] }) ::
  (nat_lit 228, { cls := .type "code", data := .fields #[.str "live_of" 473, .str "live_of" 474, .str "/claim/cut.py" 475, .int 122 0, .int 2 0, .int 0 0, .int 0 0, .int 3 0, .ref 225, .bool Bool.true, .int 181 0, .ref 226, .none, .none, .none, .ref 227, .int 476 0, .int 122 0, .str "/claim/cut.py" 477] }) ::
  (nat_lit 229, { cls := .type "function", dict := .none, data := .func (PySem.W.fnOf ("live_of") ("live_of") (L2.defArgs s_live_of) (L2.defBody s_live_of) (L2.defScope s_live_of) .none .none .none (.str "scoreflow.grammar" 339) .none (.ref 228) .none), slots := #[] }) ::
  (nat_lit 233, { cls := .type "code", data := .fields #[.str "has_live_body" 479, .str "has_live_body" 480, .str "/claim/cut.py" 481, .int 130 0, .int 4 0, .int 0 0, .int 0 0, .int 3 0, .ref 230, .bool Bool.true, .int 181 0, .ref 231, .none, .none, .none, .ref 232, .int 482 0, .int 130 0, .str "/claim/cut.py" 483] }) ::
  (nat_lit 234, { cls := .type "function", dict := .none, data := .func (PySem.W.fnOf ("has_live_body") ("has_live_body") (L2.defArgs s_has_live_body) (L2.defBody s_has_live_body) (L2.defScope s_has_live_body) .none .none .none (.str "scoreflow.grammar" 339) .none (.ref 233) .none), slots := #[] }) ::
  (nat_lit 238, { cls := .type "code", data := .fields #[.str "is_live_body" 485, .str "is_live_body" 486, .str "/claim/cut.py" 487, .int 132 0, .int 3 0, .int 0 0, .int 0 0, .int 3 0, .ref 235, .bool Bool.true, .int 181 0, .ref 236, .none, .none, .none, .ref 237, .int 488 0, .int 132 0, .str "/claim/cut.py" 489] }) ::
  (nat_lit 239, { cls := .type "function", dict := .none, data := .func (PySem.W.fnOf ("is_live_body") ("is_live_body") (L2.defArgs s_is_live_body) (L2.defBody s_is_live_body) (L2.defScope s_is_live_body) .none .none .none (.str "scoreflow.grammar" 339) .none (.ref 238) .none), slots := #[] }) ::
  (nat_lit 243, { cls := .type "code", data := .fields #[.str "stretches" 493, .str "stretches" 494, .str "/claim/cut.py" 495, .int 135 0, .int 1 0, .int 0 0, .int 0 0, .int 3 0, .ref 240, .bool Bool.true, .int 181 0, .ref 241, .none, .none, .none, .ref 242, .int 496 0, .int 135 0, .str "/claim/cut.py" 497] }) ::
  (nat_lit 244, { cls := .type "function", dict := .none, data := .func (PySem.W.fnOf ("stretches") ("stretches") (L2.defArgs s_stretches) (L2.defBody s_stretches) (L2.defScope s_stretches) .none .none .none (.str "scoreflow.rows" 491) .none (.ref 243) .none), slots := #[] }) ::
  (nat_lit 248, { cls := .type "code", data := .fields #[.str "solved_rows" 501, .str "solved_rows" 502, .str "/claim/cut.py" 503, .int 141 0, .int 2 0, .int 0 0, .int 0 0, .int 3 0, .ref 245, .bool Bool.true, .int 181 0, .ref 246, .none, .none, .none, .ref 247, .int 504 0, .int 141 0, .str "/claim/cut.py" 505] }) ::
  (nat_lit 249, { cls := .type "function", dict := .none, data := .func (PySem.W.fnOf ("solved_rows") ("solved_rows") (L2.defArgs s_solved_rows) (L2.defBody s_solved_rows) (L2.defScope s_solved_rows) .none .none .none (.str "scoreflow.solving" 499) .none (.ref 248) .none), slots := #[] }) ::
  (nat_lit 253, { cls := .type "code", data := .fields #[.str "without_itself" 507, .str "without_itself" 508, .str "/claim/cut.py" 509, .int 147 0, .int 2 0, .int 0 0, .int 0 0, .int 3 0, .ref 250, .bool Bool.true, .int 181 0, .ref 251, .none, .none, .none, .ref 252, .int 510 0, .int 147 0, .str "/claim/cut.py" 511] }) ::
  (nat_lit 254, { cls := .type "function", dict := .none, data := .func (PySem.W.fnOf ("without_itself") ("without_itself") (L2.defArgs s_without_itself) (L2.defBody s_without_itself) (L2.defScope s_without_itself) .none .none .none (.str "scoreflow.solving" 499) .none (.ref 253) .none), slots := #[] }) ::
  (nat_lit 258, { cls := .type "code", data := .fields #[.str "put_in" 513, .str "put_in" 514, .str "/claim/cut.py" 515, .int 154 0, .int 3 0, .int 0 0, .int 0 0, .int 3 0, .ref 255, .bool Bool.true, .int 181 0, .ref 256, .none, .none, .none, .ref 257, .int 516 0, .int 154 0, .str "/claim/cut.py" 517] }) ::
  (nat_lit 259, { cls := .type "function", dict := .none, data := .func (PySem.W.fnOf ("put_in") ("put_in") (L2.defArgs s_put_in) (L2.defBody s_put_in) (L2.defScope s_put_in) .none .none .none (.str "scoreflow.solving" 499) .none (.ref 258) .none), slots := #[] }) ::
  (nat_lit 265, { cls := .type "code", data := .fields #[.str "cleared" 519, .str "cleared" 520, .str "/claim/cut.py" 521, .int 159 0, .int 2 0, .int 0 0, .int 0 0, .int 3 0, .ref 260, .bool Bool.true, .int 181 0, .ref 261, .none, .ref 262, .ref 263, .ref 264, .int 524 0, .int 159 0, .str "/claim/cut.py" 525] }) ::
  (nat_lit 266, { cls := .type "function", dict := .none, data := .func (PySem.W.fnOf ("cleared") ("cleared") (L2.defArgs s_cleared) (L2.defBody s_cleared) (L2.defScope s_cleared) .none .none .none (.str "scoreflow.solving" 499) .none (.ref 265) .none), slots := #[] }) ::
  (nat_lit 277, { cls := .type "code", data := .fields #[.str "__init__" 541, .str "Sums.__init__" 542, .str "/claim/cut.py" 543, .int 164 0, .int 3 0, .int 0 0, .int 0 0, .int 3 0, .ref 274, .bool Bool.true, .int 181 0, .ref 275, .none, .none, .none, .ref 276, .int 544 0, .int 164 0, .str "/claim/cut.py" 545] }) ::
  (nat_lit 278, { cls := .type "function", dict := .none, data := .func (PySem.W.fnOf ("__init__") ("Sums.__init__") (L2.defArgs s_Sums___init__) (L2.defBody s_Sums___init__) (L2.defScope s_Sums___init__) .none .none .none (.str "scoreflow.sums" 527) .none (.ref 277) .none), slots := #[] }) ::
  (nat_lit 284, { cls := .type "code", data := .fields #[.str "within" 547, .str "Sums.within" 548, .str "/claim/cut.py" 549, .int 177 0, .int 4 0, .int 0 0, .int 0 0, .int 3 0, .ref 279, .bool Bool.true, .int 181 0, .ref 280, .none, .ref 281, .ref 282, .ref 283, .int 554 0, .int 177 0, .str "/claim/cut.py" 555] }) ::
  (nat_lit 285, { cls := .type "function", dict := .none, data := .func (PySem.W.fnOf ("within") ("Sums.within") (L2.defArgs s_Sums_within) (L2.defBody s_Sums_within) (L2.defScope s_Sums_within) .none .none .none (.str "scoreflow.sums" 527) .none (.ref 284) .none), slots := #[] }) ::
  (nat_lit 291, { cls := .type "code", data := .fields #[.str "whole" 557, .str "Sums.whole" 558, .str "/claim/cut.py" 559, .int 180 0, .int 1 0, .int 0 0, .int 0 0, .int 3 0, .ref 286, .bool Bool.true, .int 181 0, .ref 287, .none, .ref 288, .ref 289, .ref 290, .int 561 0, .int 180 0, .str "/claim/cut.py" 562] }) ::
  (nat_lit 292, { cls := .type "function", dict := .none, data := .func (PySem.W.fnOf ("whole") ("Sums.whole") (L2.defArgs s_Sums_whole) (L2.defBody s_Sums_whole) (L2.defScope s_Sums_whole) .none .none .none (.str "scoreflow.sums" 527) .none (.ref 291) .none), slots := #[] }) ::
  (nat_lit 296, { cls := .type "code", data := .fields #[.str "settle" 564, .str "Sums.settle" 565, .str "/claim/cut.py" 566, .int 183 0, .int 3 0, .int 0 0, .int 0 0, .int 3 0, .ref 293, .bool Bool.true, .int 181 0, .ref 294, .none, .none, .none, .ref 295, .int 567 0, .int 183 0, .str "/claim/cut.py" 568] }) ::
  (nat_lit 297, { cls := .type "function", dict := .none, data := .func (PySem.W.fnOf ("settle") ("Sums.settle") (L2.defArgs s_Sums_settle) (L2.defBody s_Sums_settle) (L2.defScope s_Sums_settle) .none .none .none (.str "scoreflow.sums" 527) .none (.ref 296) .none), slots := #[] }) ::
  (nat_lit 303, { cls := .type "code", data := .fields #[.str "ends_at" 570, .str "Sums.ends_at" 571, .str "/claim/cut.py" 572, .int 190 0, .int 3 0, .int 0 0, .int 0 0, .int 3 0, .ref 298, .bool Bool.true, .int 181 0, .ref 299, .none, .ref 300, .ref 301, .ref 302, .int 579 0, .int 190 0, .str "/claim/cut.py" 580] }) ::
  (nat_lit 304, { cls := .type "function", dict := .none, data := .func (PySem.W.fnOf ("ends_at") ("Sums.ends_at") (L2.defArgs s_Sums_ends_at) (L2.defBody s_Sums_ends_at) (L2.defScope s_Sums_ends_at) .none .none .none (.str "scoreflow.sums" 527) .none (.ref 303) .none), slots := #[] }) ::
  (nat_lit 310, { cls := .type "code", data := .fields #[.str "worth" 582, .str "Sums.worth" 583, .str "/claim/cut.py" 584, .int 198 0, .int 4 0, .int 0 0, .int 0 0, .int 3 0, .ref 305, .bool Bool.true, .int 181 0, .ref 306, .none, .ref 307, .ref 308, .ref 309, .int 589 0, .int 198 0, .str "/claim/cut.py" 590] }) ::
  (nat_lit 311, { cls := .type "function", dict := .none, data := .func (PySem.W.fnOf ("worth") ("Sums.worth") (L2.defArgs s_Sums_worth) (L2.defBody s_Sums_worth) (L2.defScope s_Sums_worth) .none .none .none (.str "scoreflow.sums" 527) .none (.ref 310) .none), slots := #[] }) ::
  (nat_lit 317, { cls := .type "code", data := .fields #[.str "worth_of_body" 592, .str "Sums.worth_of_body" 593, .str "/claim/cut.py" 594, .int 203 0, .int 4 0, .int 0 0, .int 0 0, .int 3 0, .ref 312, .bool Bool.true, .int 181 0, .ref 313, .none, .ref 314, .ref 315, .ref 316, .int 599 0, .int 203 0, .str "/claim/cut.py" 600] }) ::
  (nat_lit 318, { cls := .type "function", dict := .none, data := .func (PySem.W.fnOf ("worth_of_body") ("Sums.worth_of_body") (L2.defArgs s_Sums_worth_of_body) (L2.defBody s_Sums_worth_of_body) (L2.defScope s_Sums_worth_of_body) .none .none .none (.str "scoreflow.sums" 527) .none (.ref 317) .none), slots := #[] }) ::
  (nat_lit 324, { cls := .type "code", data := .fields #[.str "sum_of_partings" 602, .str "Sums.sum_of_partings" 603, .str "/claim/cut.py" 604, .int 210 0, .int 4 0, .int 0 0, .int 0 0, .int 3 0, .ref 319, .bool Bool.true, .int 181 0, .ref 320, .none, .ref 321, .ref 322, .ref 323, .int 612 0, .int 210 0, .str "/claim/cut.py" 613] }) ::
  (nat_lit 325, { cls := .type "function", dict := .none, data := .func (PySem.W.fnOf ("sum_of_partings") ("Sums.sum_of_partings") (L2.defArgs s_Sums_sum_of_partings) (L2.defBody s_Sums_sum_of_partings) (L2.defScope s_Sums_sum_of_partings) .none .none .none (.str "scoreflow.sums" 527) .none (.ref 324) .none), slots := #[] }) ::
  (nat_lit 327, { cls := .type "dict", data := .dict #[en P "__module__" 536 (.str "scoreflow.sums" 527), en P "__firstlineno__" 540 (.int 162 539), en P "__init__" 546 (.ref 278), en P "within" 556 (.ref 285), en P "whole" 563 (.ref 292), en P "settle" 569 (.ref 297), en P "ends_at" 581 (.ref 304), en P "worth" 591 (.ref 311), en P "worth_of_body" 601 (.ref 318), en P "sum_of_partings" 614 (.ref 325), en P "__static_attributes__" 622 (.ref 326), en P "__dict__" 624 (.ref 329), en P "__weakref__" 626 (.ref 330), en P "__doc__" 627 (.none)] 4 }) ::
  (nat_lit 328, { cls := .type "type", data := .cls { name := "Sums", bases := [.type "object"], mro := [.ref 328, .type "object"], ns := 327, qualname := "Sums" }, slots := #[.none, .none, .some (.str "Sums" 529), .some (.str "Sums" 537), .some (.builtin "object.__new__"), .some (.bool Bool.true)] }) ::
  (nat_lit 329, { cls := .type "getset_descriptor", data := .fields #[.str "__dict__" 623, .ref 328, .builtin "function.__dict__", .builtin "function.__dict__#set"] }) ::
  (nat_lit 330, { cls := .type "getset_descriptor", data := .fields #[.str "__weakref__" 625, .ref 328, .builtin "ExceptionGroup.__weakref__", .none] }) ::
  (nat_lit 336, { cls := .type "code", data := .fields #[.str "live_rules" 630, .str "live_rules" 631, .str "/claim/cut.py" 632, .int 217 0, .int 1 0, .int 0 0, .int 0 0, .int 3 0, .ref 333, .bool Bool.true, .int 181 0, .ref 334, .none, .none, .none, .ref 335, .int 633 0, .int 217 0, .str "/claim/cut.py" 634] }) ::
  (nat_lit 337, { cls := .type "function", dict := .none, data := .func (PySem.W.fnOf ("live_rules") ("live_rules") (L2.defArgs s_live_rules) (L2.defBody s_live_rules) (L2.defScope s_live_rules) .none .none .none (.str "scoreflow.sums" 527) .none (.ref 336) .none), slots := #[] }) ::
  (nat_lit 343, { cls := .type "code", data := .fields #[.str "is_step" 636, .str "is_step" 637, .str "/claim/cut.py" 638, .int 221 0, .int 2 0, .int 0 0, .int 0 0, .int 3 0, .ref 338, .bool Bool.true, .int 181 0, .ref 339, .none, .ref 340, .ref 341, .ref 342, .int 641 0, .int 221 0, .str "/claim/cut.py" 642] }) ::
  (nat_lit 344, { cls := .type "function", dict := .none, data := .func (PySem.W.fnOf ("is_step") ("is_step") (L2.defArgs s_is_step) (L2.defBody s_is_step) (L2.defScope s_is_step) .none .none .none (.str "scoreflow.sums" 527) .none (.ref 343) .none), slots := #[] }) ::
  (nat_lit 348, { cls := .type "code", data := .fields #[.str "chains_of" 644, .str "chains_of" 645, .str "/claim/cut.py" 646, .int 223 0, .int 2 0, .int 0 0, .int 0 0, .int 3 0, .ref 345, .bool Bool.true, .int 181 0, .ref 346, .none, .none, .none, .ref 347, .int 647 0, .int 223 0, .str "/claim/cut.py" 648] }) ::
  (nat_lit 349, { cls := .type "function", dict := .none, data := .func (PySem.W.fnOf ("chains_of") ("chains_of") (L2.defArgs s_chains_of) (L2.defBody s_chains_of) (L2.defScope s_chains_of) .none .none .none (.str "scoreflow.sums" 527) .none (.ref 348) .none), slots := #[] }) ::
  (nat_lit 355, { cls := .type "code", data := .fields #[.str "_law_cell_at" 652, .str "_law_cell_at" 653, .str "/claim/cut.py" 654, .int 237 0, .int 2 0, .int 0 0, .int 0 0, .int 3 0, .ref 350, .bool Bool.true, .int 181 0, .ref 351, .none, .ref 352, .ref 353, .ref 354, .int 657 0, .int 237 0, .str "/claim/cut.py" 658] }) ::
  (nat_lit 356, { cls := .type "function", dict := .none, data := .func (PySem.W.fnOf ("_law_cell_at") ("_law_cell_at") (L2.defArgs s_law_cell_at) (L2.defBody s_law_cell_at) (L2.defScope s_law_cell_at) .none .none .none (.str "law_scoreflow_k08_rings_of_two" 650) .none (.ref 355) .none), slots := #[] }) ::
  (nat_lit 362, { cls := .type "code", data := .fields #[.str "_law_whole" 660, .str "_law_whole" 661, .str "/claim/cut.py" 662, .int 241 0, .int 1 0, .int 0 0, .int 0 0, .int 3 0, .ref 357, .bool Bool.true, .int 181 0, .ref 358, .none, .ref 359, .ref 360, .ref 361, .int 664 0, .int 241 0, .str "/claim/cut.py" 665] }) ::
  (nat_lit 363, { cls := .type "function", dict := .none, data := .func (PySem.W.fnOf ("_law_whole") ("_law_whole") (L2.defArgs s_law_whole) (L2.defBody s_law_whole) (L2.defScope s_law_whole) .none .none .none (.str "law_scoreflow_k08_rings_of_two" 650) .none (.ref 362) .none), slots := #[] }) ::
  (nat_lit 369, { cls := .type "code", data := .fields #[.str "_law_symbols" 667, .str "_law_symbols" 668, .str "/claim/cut.py" 669, .int 243 0, .int 2 0, .int 0 0, .int 0 0, .int 3 0, .ref 364, .bool Bool.true, .int 181 0, .ref 365, .none, .ref 366, .ref 367, .ref 368, .int 680 0, .int 243 0, .str "/claim/cut.py" 681] }) ::
  (nat_lit 370, { cls := .type "function", dict := .none, data := .func (PySem.W.fnOf ("_law_symbols") ("_law_symbols") (L2.defArgs s_law_symbols) (L2.defBody s_law_symbols) (L2.defScope s_law_symbols) .none .none .none (.str "law_scoreflow_k08_rings_of_two" 650) .none (.ref 369) .none), slots := #[] }) ::
  (nat_lit 376, { cls := .type "code", data := .fields #[.str "_law_share" 683, .str "_law_share" 684, .str "/claim/cut.py" 685, .int 257 0, .int 2 0, .int 0 0, .int 0 0, .int 3 0, .ref 371, .bool Bool.true, .int 181 0, .ref 372, .none, .ref 373, .ref 374, .ref 375, .int 691 0, .int 257 0, .str "/claim/cut.py" 692] }) ::
  (nat_lit 377, { cls := .type "function", dict := .none, data := .func (PySem.W.fnOf ("_law_share") ("_law_share") (L2.defArgs s_law_share) (L2.defBody s_law_share) (L2.defScope s_law_share) .none .none .none (.str "law_scoreflow_k08_rings_of_two" 650) .none (.ref 376) .none), slots := #[] }) ::
  (nat_lit 383, { cls := .type "code", data := .fields #[.str "_law_added" 694, .str "_law_added" 695, .str "/claim/cut.py" 696, .int 265 0, .int 2 0, .int 0 0, .int 0 0, .int 3 0, .ref 378, .bool Bool.true, .int 181 0, .ref 379, .none, .ref 380, .ref 381, .ref 382, .int 699 0, .int 265 0, .str "/claim/cut.py" 700] }) ::
  (nat_lit 384, { cls := .type "function", dict := .none, data := .func (PySem.W.fnOf ("_law_added") ("_law_added") (L2.defArgs s_law_added) (L2.defBody s_law_added) (L2.defScope s_law_added) .none .none .none (.str "law_scoreflow_k08_rings_of_two" 650) .none (.ref 383) .none), slots := #[] }) ::
  (nat_lit 390, { cls := .type "code", data := .fields #[.str "_law_timed" 702, .str "_law_timed" 703, .str "/claim/cut.py" 704, .int 267 0, .int 2 0, .int 0 0, .int 0 0, .int 3 0, .ref 385, .bool Bool.true, .int 181 0, .ref 386, .none, .ref 387, .ref 388, .ref 389, .int 707 0, .int 267 0, .str "/claim/cut.py" 708] }) ::
  (nat_lit 391, { cls := .type "function", dict := .none, data := .func (PySem.W.fnOf ("_law_timed") ("_law_timed") (L2.defArgs s_law_timed) (L2.defBody s_law_timed) (L2.defScope s_law_timed) .none .none .none (.str "law_scoreflow_k08_rings_of_two" 650) .none (.ref 390) .none), slots := #[] }) ::
  (nat_lit 397, { cls := .type "code", data := .fields #[.str "_law_is_share" 710, .str "_law_is_share" 711, .str "/claim/cut.py" 712, .int 269 0, .int 1 0, .int 0 0, .int 0 0, .int 3 0, .ref 392, .bool Bool.true, .int 181 0, .ref 393, .none, .ref 394, .ref 395, .ref 396, .int 714 0, .int 269 0, .str "/claim/cut.py" 715] }) ::
  (nat_lit 398, { cls := .type "function", dict := .none, data := .func (PySem.W.fnOf ("_law_is_share") ("_law_is_share") (L2.defArgs s_law_is_share) (L2.defBody s_law_is_share) (L2.defScope s_law_is_share) .none .none .none (.str "law_scoreflow_k08_rings_of_two" 650) .none (.ref 397) .none), slots := #[] }) ::
  (nat_lit 404, { cls := .type "code", data := .fields #[.str "_law_near" 717, .str "_law_near" 718, .str "/claim/cut.py" 719, .int 273 0, .int 4 0, .int 0 0, .int 0 0, .int 3 0, .ref 399, .bool Bool.true, .int 181 0, .ref 400, .none, .ref 401, .ref 402, .ref 403, .int 727 0, .int 273 0, .str "/claim/cut.py" 728] }) ::
  (nat_lit 405, { cls := .type "function", dict := .none, data := .func (PySem.W.fnOf ("_law_near") ("_law_near") (L2.defArgs s_law_near) (L2.defBody s_law_near) (L2.defScope s_law_near) .none .none .none (.str "law_scoreflow_k08_rings_of_two" 650) .none (.ref 404) .none), slots := #[] }) ::
  (nat_lit 409, { cls := .type "code", data := .fields #[.str "law" 730, .str "law" 731, .str "/claim/cut.py" 732, .int 278 0, .int 1 0, .int 0 0, .int 0 0, .int 3 0, .ref 406, .bool Bool.true, .int 181 0, .ref 407, .none, .none, .none, .ref 408, .int 733 0, .int 278 0, .str "/claim/cut.py" 734] }) ::
  (nat_lit 410, { cls := .type "function", dict := .none, data := .func (PySem.W.fnOf ("law") ("law") (L2.defArgs s_law) (L2.defBody s_law) (L2.defScope s_law) .none .none .none (.str "law_scoreflow_k08_rings_of_two" 650) .none (.ref 409) .none), slots := #[] }) :: []
def KA : List Addr := nat_lit 2 :: nat_lit 3 :: nat_lit 23 :: nat_lit 24 :: nat_lit 25 :: nat_lit 36 :: nat_lit 37 :: nat_lit 48 :: nat_lit 49 :: nat_lit 60 :: nat_lit 61 :: nat_lit 64 :: nat_lit 65 :: nat_lit 71 :: nat_lit 72 :: nat_lit 78 :: nat_lit 79 :: nat_lit 85 :: nat_lit 86 :: nat_lit 92 :: nat_lit 93 :: nat_lit 99 :: nat_lit 100 :: nat_lit 106 :: nat_lit 107 :: nat_lit 113 :: nat_lit 114 :: nat_lit 120 :: nat_lit 121 :: nat_lit 134 :: nat_lit 135 :: nat_lit 141 :: nat_lit 142 :: nat_lit 148 :: nat_lit 149 :: nat_lit 155 :: nat_lit 156 :: nat_lit 162 :: nat_lit 163 :: nat_lit 165 :: nat_lit 166 :: nat_lit 167 :: nat_lit 168 :: nat_lit 176 :: nat_lit 177 :: nat_lit 183 :: nat_lit 184 :: nat_lit 190 :: nat_lit 191 :: nat_lit 195 :: nat_lit 196 :: nat_lit 202 :: nat_lit 203 :: nat_lit 209 :: nat_lit 210 :: nat_lit 216 :: nat_lit 217 :: nat_lit 223 :: nat_lit 224 :: nat_lit 228 :: nat_lit 229 :: nat_lit 233 :: nat_lit 234 :: nat_lit 238 :: nat_lit 239 :: nat_lit 243 :: nat_lit 244 :: nat_lit 248 :: nat_lit 249 :: nat_lit 253 :: nat_lit 254 :: nat_lit 258 :: nat_lit 259 :: nat_lit 265 :: nat_lit 266 :: nat_lit 277 :: nat_lit 278 :: nat_lit 284 :: nat_lit 285 :: nat_lit 291 :: nat_lit 292 :: nat_lit 296 :: nat_lit 297 :: nat_lit 303 :: nat_lit 304 :: nat_lit 310 :: nat_lit 311 :: nat_lit 317 :: nat_lit 318 :: nat_lit 324 :: nat_lit 325 :: nat_lit 327 :: nat_lit 328 :: nat_lit 329 :: nat_lit 330 :: nat_lit 336 :: nat_lit 337 :: nat_lit 343 :: nat_lit 344 :: nat_lit 348 :: nat_lit 349 :: nat_lit 355 :: nat_lit 356 :: nat_lit 362 :: nat_lit 363 :: nat_lit 369 :: nat_lit 370 :: nat_lit 376 :: nat_lit 377 :: nat_lit 383 :: nat_lit 384 :: nat_lit 390 :: nat_lit 391 :: nat_lit 397 :: nat_lit 398 :: nat_lit 404 :: nat_lit 405 :: nat_lit 409 :: nat_lit 410 :: []
theorem KE : ∀ P, KA = (KP P).map (·.1) := fun _ => by kernel_rfl
def view : Program := { PySem.Challenge.pw_scoreflow_k08_rings_of_two with main := { PySem.Challenge.pw_scoreflow_k08_rings_of_two.main with body := [top 1, top 2, top 3, top 4, top 6, top 7, top 8, top 9, top 10, top 11, top 12, top 13, top 14, top 15, top 17, top 18, top 19, top 20, top 21, top 22, top 23, top 24, top 25, top 26, top 27, top 28, top 29, top 30, top 31, top 33, top 35, top 36, top 37, top 38, top 40, top 41, top 42, top 43, top 45, top 46, top 47, top 48, top 49, top 50, top 51, top 52, top 53] } }
abbrev pr : Program := PySem.Challenge.pw_scoreflow_k08_rings_of_two
def tp : List Stmt := PySem.W.behindTheImports pr
def ev : Env := { scope := pr.main.scope, locals := mainNs, globals := mainNs, cells := [], code := .ref 13, frame := some 14 }
def fr0 (n q : Str) (s : Stmt) : Obj := { cls := .none, data := .func { name := n, qualname := q, params := L2.defArgs s, body := .stmts (L2.defBody s), scope := L2.defScope s, globals := 0, closure := [], defaults := .none, kwdefaults := .none } }
noncomputable def hA (P : Params) : Heap := { objs := ⟨PySem.W.boot_o_0 P ::
  PySem.W.boot_o_1 P ::
  PySem.W.boot_o_2 P ::
  PySem.W.boot_o_3 P ::
  PySem.W.boot_o_4 P ::
  PySem.W.boot_o_5 P ::
  PySem.W.boot_o_6 P ::
  PySem.W.boot_o_7 P ::
  PySem.W.boot_o_8 P ::
  PySem.W.boot_o_9 P ::
  PySem.W.boot_o_10 P ::
  { cls := .type "tuple", data := .seq #[] } ::
  { cls := .none, data := .fields #[] } ::
  { cls := .type "code", data := .fields #[.str "<module>" 182, .str "<module>" 183, .str "/claim/cut.py" 184, .int 1 0, .int 0 0, .int 0 0, .int 0 0, .int 0 0, .ref 11, .bool Bool.false, .int 181 0, .ref 12, .none, .none, .none, .none, .int 185 0, .int 1 0, .str "/claim/cut.py" 186] } ::
  { cls := .type "frame", slots := #[.some (.ref 13), .some (.ref 3), .some (.ref 3), .none, .some (.str "__main__" 164), .none, .some (.ref 0)] } :: []⟩ }
noncomputable def hM (P : Params) : Heap := { objs := ⟨PySem.W.boot_o_0 P ::
  PySem.W.boot_o_1 P ::
  PySem.W.boot_o_2 P ::
  { cls := .type "dict", data := .dict #[en P "__name__" 165 (.str "scoreflow.shares" 255), en P "__doc__" 166 (.none), en P "__package__" 167 (.none), en P "__loader__" 168 (.builtin "__main__.__loader__#opaque"), en P "__spec__" 169 (.none), en P "__annotations__" 170 (.ref 6), en P "__builtins__" 171 (.ref 4), en P "__file__" 173 (.str "/claim/cut.py" 172), en P "__cached__" 174 (.none), en P "ScoreError" 206 (.ref 24), en P "NoShare" 222 (.ref 37), en P "NoEnd" 238 (.ref 49), en P "NoGrammar" 254 (.ref 61), en P "NOUGHT" 259 (.ref 64), en P "ONE" 262 (.ref 65), en P "common_divisor" 271 (.ref 72), en P "share" 280 (.ref 79), en P "added" 291 (.ref 86), en P "lessened" 299 (.ref 93)] 19 } ::
  PySem.W.boot_o_4 P ::
  PySem.W.boot_o_5 P ::
  PySem.W.boot_o_6 P ::
  PySem.W.boot_o_7 P ::
  PySem.W.boot_o_8 P ::
  PySem.W.boot_o_9 P ::
  PySem.W.boot_o_10 P ::
  { cls := .type "tuple", data := .seq #[] } ::
  { cls := .none, data := .fields #[.int 2 0, .int 0 0, .ref 20, .int 4 0, .int 0 0, .ref 33, .int 6 0, .int 0 0, .ref 45, .int 8 0, .int 0 0, .ref 57, .int 13 0, .int 0 0, .ref 71, .int 19 0, .int 0 0, .ref 78, .int 26 0, .int 0 0, .ref 85, .int 31 0, .int 0 0, .ref 92] } ::
  { cls := .type "code", data := .fields #[.str "<module>" 182, .str "<module>" 183, .str "/claim/cut.py" 184, .int 1 0, .int 0 0, .int 0 0, .int 0 0, .int 0 0, .ref 11, .bool Bool.false, .int 181 0, .ref 12, .none, .none, .none, .none, .int 185 0, .int 1 0, .str "/claim/cut.py" 186] } ::
  { cls := .type "frame", slots := #[.some (.ref 13), .some (.ref 3), .some (.ref 3), .none, .some (.str "__main__" 164), .none, .some (.ref 0)] } ::
  { cls := .type "tuple", data := .seq #[.type "ValueError"] } ::
  { cls := .type "builtin_function_or_method", data := .fields #[.builtin "type.__prepare__", .type "type"] } ::
  { cls := .type "dict", data := .dict #[en P "__module__" 196 (.str "scoreflow.errors" 187), en P "__qualname__" 198 (.str "ScoreError" 197), en P "__firstlineno__" 200 (.int 2 199), en P "__static_attributes__" 201 (.ref 22)] 4 } ::
  { cls := .type "tuple", data := .seq #[] } ::
  { cls := .none, data := .fields #[] } ::
  { cls := .type "code", data := .fields #[.str "ScoreError" 191, .str "ScoreError" 192, .str "/claim/cut.py" 193, .int 2 0, .int 0 0, .int 0 0, .int 0 0, .int 0 0, .ref 18, .bool Bool.false, .int 181 0, .ref 19, .none, .none, .none, .none, .int 194 0, .int 2 0, .str "/claim/cut.py" 195] } ::
  { cls := .type "frame", slots := #[.some (.ref 20), .some (.ref 3), .some (.ref 17), .none, .some (.str "scoreflow.errors" 187), .none, .some (.ref 0)] } ::
  { cls := .type "tuple", data := .seq #[] } ::
  { cls := .type "dict", data := .dict #[en P "__module__" 196 (.str "scoreflow.errors" 187), en P "__firstlineno__" 200 (.int 2 199), en P "__static_attributes__" 201 (.ref 22), en P "__weakref__" 203 (.ref 25), en P "__doc__" 204 (.none)] 3 } ::
  { cls := .type "type", data := .cls { name := "ScoreError", bases := [.type "ValueError"], mro := [.ref 24, .type "ValueError", .type "Exception", .type "BaseException", .type "object"], ns := 23, qualname := "ScoreError", subclasses := [.ref 37, .ref 49, .ref 61] }, slots := #[.some (.ref 15), .none, .some (.str "ScoreError" 189), .some (.str "ScoreError" 197), .some (.builtin "ValueError.__new__"), .some (.bool Bool.true)] } ::
  { cls := .type "getset_descriptor", data := .fields #[.str "__weakref__" 202, .ref 24, .builtin "ExceptionGroup.__weakref__", .none] } ::
  { cls := .type "super", data := .fields #[.ref 24, .ref 24, .ref 24] } ::
  { cls := .type "builtin_function_or_method", data := .fields #[.builtin "object.__init_subclass__", .ref 24] } ::
  { cls := .type "tuple", data := .seq #[.ref 24] } ::
  { cls := .type "builtin_function_or_method", data := .fields #[.builtin "type.__prepare__", .type "type"] } ::
  { cls := .type "dict", data := .dict #[en P "__module__" 214 (.str "scoreflow.errors" 187), en P "__qualname__" 216 (.str "NoShare" 215), en P "__firstlineno__" 218 (.int 4 217), en P "__static_attributes__" 219 (.ref 35)] 4 } ::
  { cls := .type "tuple", data := .seq #[] } ::
  { cls := .none, data := .fields #[] } ::
  { cls := .type "code", data := .fields #[.str "NoShare" 209, .str "NoShare" 210, .str "/claim/cut.py" 211, .int 4 0, .int 0 0, .int 0 0, .int 0 0, .int 0 0, .ref 31, .bool Bool.false, .int 181 0, .ref 32, .none, .none, .none, .none, .int 212 0, .int 4 0, .str "/claim/cut.py" 213] } ::
  { cls := .type "frame", slots := #[.some (.ref 33), .some (.ref 3), .some (.ref 30), .none, .some (.str "scoreflow.errors" 187), .none, .some (.ref 0)] } ::
  { cls := .type "tuple", data := .seq #[] } ::
  { cls := .type "dict", data := .dict #[en P "__module__" 214 (.str "scoreflow.errors" 187), en P "__firstlineno__" 218 (.int 4 217), en P "__static_attributes__" 219 (.ref 35), en P "__doc__" 220 (.none)] 2 } ::
  { cls := .type "type", data := .cls { name := "NoShare", bases := [.ref 24], mro := [.ref 37, .ref 24, .type "ValueError", .type "Exception", .type "BaseException", .type "object"], ns := 36, qualname := "NoShare" }, slots := #[.some (.ref 28), .none, .some (.str "NoShare" 207), .some (.str "NoShare" 215), .some (.builtin "ValueError.__new__"), .some (.bool Bool.true)] } ::
  { cls := .type "super", data := .fields #[.ref 37, .ref 37, .ref 37] } ::
  { cls := .type "builtin_function_or_method", data := .fields #[.builtin "object.__init_subclass__", .ref 37] } ::
  { cls := .type "tuple", data := .seq #[.ref 24] } ::
  { cls := .type "builtin_function_or_method", data := .fields #[.builtin "type.__prepare__", .type "type"] } ::
  { cls := .type "dict", data := .dict #[en P "__module__" 230 (.str "scoreflow.errors" 187), en P "__qualname__" 232 (.str "NoEnd" 231), en P "__firstlineno__" 234 (.int 6 233), en P "__static_attributes__" 235 (.ref 47)] 4 } ::
  { cls := .type "tuple", data := .seq #[] } ::
  { cls := .none, data := .fields #[] } ::
  { cls := .type "code", data := .fields #[.str "NoEnd" 225, .str "NoEnd" 226, .str "/claim/cut.py" 227, .int 6 0, .int 0 0, .int 0 0, .int 0 0, .int 0 0, .ref 43, .bool Bool.false, .int 181 0, .ref 44, .none, .none, .none, .none, .int 228 0, .int 6 0, .str "/claim/cut.py" 229] } ::
  { cls := .type "frame", slots := #[.some (.ref 45), .some (.ref 3), .some (.ref 42), .none, .some (.str "scoreflow.errors" 187), .none, .some (.ref 0)] } ::
  { cls := .type "tuple", data := .seq #[] } ::
  { cls := .type "dict", data := .dict #[en P "__module__" 230 (.str "scoreflow.errors" 187), en P "__firstlineno__" 234 (.int 6 233), en P "__static_attributes__" 235 (.ref 47), en P "__doc__" 236 (.none)] 2 } ::
  { cls := .type "type", data := .cls { name := "NoEnd", bases := [.ref 24], mro := [.ref 49, .ref 24, .type "ValueError", .type "Exception", .type "BaseException", .type "object"], ns := 48, qualname := "NoEnd" }, slots := #[.some (.ref 40), .none, .some (.str "NoEnd" 223), .some (.str "NoEnd" 231), .some (.builtin "ValueError.__new__"), .some (.bool Bool.true)] } ::
  { cls := .type "super", data := .fields #[.ref 49, .ref 49, .ref 49] } ::
  { cls := .type "builtin_function_or_method", data := .fields #[.builtin "object.__init_subclass__", .ref 49] } ::
  { cls := .type "tuple", data := .seq #[.ref 24] } ::
  { cls := .type "builtin_function_or_method", data := .fields #[.builtin "type.__prepare__", .type "type"] } ::
  { cls := .type "dict", data := .dict #[en P "__module__" 246 (.str "scoreflow.errors" 187), en P "__qualname__" 248 (.str "NoGrammar" 247), en P "__firstlineno__" 250 (.int 8 249), en P "__static_attributes__" 251 (.ref 59)] 4 } ::
  { cls := .type "tuple", data := .seq #[] } ::
  { cls := .none, data := .fields #[] } ::
  { cls := .type "code", data := .fields #[.str "NoGrammar" 241, .str "NoGrammar" 242, .str "/claim/cut.py" 243, .int 8 0, .int 0 0, .int 0 0, .int 0 0, .int 0 0, .ref 55, .bool Bool.false, .int 181 0, .ref 56, .none, .none, .none, .none, .int 244 0, .int 8 0, .str "/claim/cut.py" 245] } ::
  { cls := .type "frame", slots := #[.some (.ref 57), .some (.ref 3), .some (.ref 54), .none, .some (.str "scoreflow.errors" 187), .none, .some (.ref 0)] } ::
  { cls := .type "tuple", data := .seq #[] } ::
  { cls := .type "dict", data := .dict #[en P "__module__" 246 (.str "scoreflow.errors" 187), en P "__firstlineno__" 250 (.int 8 249), en P "__static_attributes__" 251 (.ref 59), en P "__doc__" 252 (.none)] 2 } ::
  { cls := .type "type", data := .cls { name := "NoGrammar", bases := [.ref 24], mro := [.ref 61, .ref 24, .type "ValueError", .type "Exception", .type "BaseException", .type "object"], ns := 60, qualname := "NoGrammar" }, slots := #[.some (.ref 52), .none, .some (.str "NoGrammar" 239), .some (.str "NoGrammar" 247), .some (.builtin "ValueError.__new__"), .some (.bool Bool.true)] } ::
  { cls := .type "super", data := .fields #[.ref 61, .ref 61, .ref 61] } ::
  { cls := .type "builtin_function_or_method", data := .fields #[.builtin "object.__init_subclass__", .ref 61] } ::
  { cls := .type "tuple", data := .seq #[.int 0 257, .int 1 258] } ::
  { cls := .type "tuple", data := .seq #[.int 1 260, .int 1 261] } ::
  { cls := .type "tuple", data := .seq #[] } ::
  { cls := .none, data := .fields #[] } ::
  { cls := .type "tuple", data := .seq #[.str "one" 266, .str "other" 267, .str "rest" 268] } ::
  { cls := .type "tuple", data := .seq #[] } ::
  fr0 ("common_divisor") ("common_divisor") s_common_divisor ::
  { cls := .type "code", data := .fields #[.str "common_divisor" 263, .str "common_divisor" 264, .str "/claim/cut.py" 265, .int 13 0, .int 2 0, .int 0 0, .int 0 0, .int 3 0, .ref 66, .bool Bool.true, .int 181 0, .ref 67, .none, .ref 68, .ref 69, .ref 70, .int 269 0, .int 13 0, .str "/claim/cut.py" 270] } ::
  { cls := .type "function", dict := .none, data := .func (PySem.W.fnOf ("common_divisor") ("common_divisor") (L2.defArgs s_common_divisor) (L2.defBody s_common_divisor) (L2.defScope s_common_divisor) .none .none .none (.str "scoreflow.shares" 255) .none (.ref 71) .none), slots := #[] } ::
  { cls := .type "tuple", data := .seq #[] } ::
  { cls := .none, data := .fields #[] } ::
  { cls := .type "tuple", data := .seq #[.str "top" 275, .str "bottom" 276, .str "divisor" 277] } ::
  { cls := .type "tuple", data := .seq #[] } ::
  fr0 ("share") ("share") s_share ::
  { cls := .type "code", data := .fields #[.str "share" 272, .str "share" 273, .str "/claim/cut.py" 274, .int 19 0, .int 2 0, .int 0 0, .int 0 0, .int 3 0, .ref 73, .bool Bool.true, .int 181 0, .ref 74, .none, .ref 75, .ref 76, .ref 77, .int 278 0, .int 19 0, .str "/claim/cut.py" 279] } ::
  { cls := .type "function", dict := .none, data := .func (PySem.W.fnOf ("share") ("share") (L2.defArgs s_share) (L2.defBody s_share) (L2.defScope s_share) .none .none .none (.str "scoreflow.shares" 255) .none (.ref 78) .none), slots := #[] } ::
  { cls := .type "tuple", data := .seq #[] } ::
  { cls := .none, data := .fields #[] } ::
  { cls := .type "tuple", data := .seq #[.str "one" 284, .str "other" 285, .str "divisor" 286, .str "top" 287, .str "left" 288] } ::
  { cls := .type "tuple", data := .seq #[] } ::
  fr0 ("added") ("added") s_added ::
  { cls := .type "code", data := .fields #[.str "added" 281, .str "added" 282, .str "/claim/cut.py" 283, .int 26 0, .int 2 0, .int 0 0, .int 0 0, .int 3 0, .ref 80, .bool Bool.true, .int 181 0, .ref 81, .none, .ref 82, .ref 83, .ref 84, .int 289 0, .int 26 0, .str "/claim/cut.py" 290] } ::
  { cls := .type "function", dict := .none, data := .func (PySem.W.fnOf ("added") ("added") (L2.defArgs s_added) (L2.defBody s_added) (L2.defScope s_added) .none .none .none (.str "scoreflow.shares" 255) .none (.ref 85) .none), slots := #[] } ::
  { cls := .type "tuple", data := .seq #[] } ::
  { cls := .none, data := .fields #[] } ::
  { cls := .type "tuple", data := .seq #[.str "one" 295, .str "other" 296] } ::
  { cls := .type "tuple", data := .seq #[] } ::
  fr0 ("lessened") ("lessened") s_lessened ::
  { cls := .type "code", data := .fields #[.str "lessened" 292, .str "lessened" 293, .str "/claim/cut.py" 294, .int 31 0, .int 2 0, .int 0 0, .int 0 0, .int 3 0, .ref 87, .bool Bool.true, .int 181 0, .ref 88, .none, .ref 89, .ref 90, .ref 91, .int 297 0, .int 31 0, .str "/claim/cut.py" 298] } ::
  { cls := .type "function", dict := .none, data := .func (PySem.W.fnOf ("lessened") ("lessened") (L2.defArgs s_lessened) (L2.defBody s_lessened) (L2.defScope s_lessened) .none .none .none (.str "scoreflow.shares" 255) .none (.ref 92) .none), slots := #[] } :: []⟩ }
noncomputable def sA (w : World) (os : OsState) : Shared := { heap := hA w.params, toks := 187, os := os }
noncomputable def sM (w : World) (os : OsState) : Shared := { heap := hM w.params, toks := 300, os := os }
noncomputable def s0 (w : World) (os : OsState) : Shared := { heap := PySem.W.boot_heap w.params, gens := #[], drawn := PySem.W.boot_drawn, toks := PySem.W.boot_toks, os := os }
noncomputable def chk (w : World) (s : Shared) : Option Shared := match PySem.W.staticsOk (importedModules pr.main.body) (PySem.W.boot_heap w.params) s.heap && PySem.W.namesBound pr s.heap && PySem.W.gensDone s && PySem.W.laidKept (PySem.W.boot_heap w.params) s.heap with
  | true => some s
  | false => none
abbrev xt (s : Shared) : Bool := PySem.W.xlAt view [] s && PySem.W.recOk [] s
theorem g1 (w : World) (os : OsState) : PySem.W.topGo treeTable pr w 11 (some (.ref 6)) 12 (s0 w os) (PySem.W.topStub pr) = some (sA w os, { cur := denote treeTable (.body tp ev), code := .body tp ev, pos := ⟨0, 0, 0, 0⟩, stack := [PySem.W.topFrame ⟨0, 0, 0, 0⟩] }) := by kernel_rfl
theorem g2 (w : World) (os : OsState) : PySem.W.segRun treeTable pr w 11 (some (.ref 6)) 1 1 (sA w os) (PySem.W.blockOf tp ev (.body tp ev) ⟨0, 0, 0, 0⟩ [PySem.W.topFrame ⟨0, 0, 0, 0⟩]) = some (.next, sA w os, .body tp ev, ⟨0, 0, 0, 0⟩) := by kernel_rfl
set_option maxHeartbeats 0 in
theorem g3 (w : World) (os : OsState) : PySem.W.segRun treeTable pr w 11 (some (.ref 6)) 1 1100 (sA w os) (PySem.W.piecesOf (tp.take 12) ev (.body tp ev) ⟨0, 0, 0, 0⟩ [PySem.W.topFrame ⟨0, 0, 0, 0⟩]) = some (.next, sM w os, .body tp ev, ⟨31, 0, 34, 74⟩) := by kernel_rfl
noncomputable def mid (w : World) (os : OsState) : Option Shared := (PySem.W.topRun treeTable pr w 11 (some (.ref 6)) 4000 (sM w os) (PySem.W.restOf (tp.drop 12) ev (.body tp ev) ⟨31, 0, 34, 74⟩ [PySem.W.topFrame ⟨0, 0, 0, 0⟩])).bind (chk w)
abbrev see (s : Shared) := PySem.W.openSeen view [] (importedModules pr.main.body) xt true s
abbrev goo := PySem.W.openGood view []
set_option maxHeartbeats 0 in
theorem g4 (w : World) (os : OsState) : (mid w os).map (fun s => (PySem.W.kHook KP KA KE).obs s) = some ((PySem.W.kHook KP KA KE).val w) := by kernel_rfl
set_option maxHeartbeats 0 in
theorem g5 (w : World) (os : OsState) : (mid w os).map (fun s => ((see s).1, (see s).2.1, (see s).2.2.1, (see s).2.2.2.1)) = some (goo.1, goo.2.1, goo.2.2.1, goo.2.2.2.1) := by kernel_rfl
set_option maxHeartbeats 0 in
theorem g6 (w : World) (os : OsState) : (mid w os).map (fun s => (see s).2.2.2.2) = some goo.2.2.2.2 := by kernel_rfl
theorem hl : PySem.W.LeftO pr view [] xt (PySem.W.kHook KP KA KE).obs (PySem.W.kHook KP KA KE).val (12 + (1 + (1100 + 4000))) := by
  intro w
  have b := PySem.W.boot_open (p := pr) (N := 12 + (1 + (1100 + 4000))) (by kernel_rfl) (by kernel_rfl) (fun s => by rfl) w
  obtain ⟨s, h0, e0⟩ := Option.map_eq_some_iff.mp b
  obtain ⟨hp, g, d, tk, os⟩ := s
  simp only [Prod.mk.injEq] at e0
  obtain ⟨rfl, rfl, rfl, rfl⟩ := e0
  unfold PySem.W.openEnds
  rw [h0]
  have e : PySem.W.topFrom treeTable pr w (12 + (1 + (1100 + 4000))) (s0 w os) = (PySem.W.topRun treeTable pr w 11 (some (.ref 6)) (12 + (1 + (1100 + 4000))) (s0 w os) (PySem.W.topStub pr)).bind (chk w) := by kernel_rfl
  show Option.map _ (PySem.W.topFrom treeTable pr w (12 + (1 + (1100 + 4000))) (s0 w os)) = _
  rw [e]
  have q := g4 w os
  have q5 := g5 w os
  have q6 := g6 w os
  unfold mid at q q5 q6
  cases hr : PySem.W.topRun treeTable pr w 11 (some (.ref 6)) 4000 (sM w os) (PySem.W.restOf (tp.drop 12) ev (.body tp ev) ⟨31, 0, 34, 74⟩ [PySem.W.topFrame ⟨0, 0, 0, 0⟩]) with
  | none => rw [hr] at q; cases q
  | some r =>
    have c := PySem.W.piece_app (g3 w os) hr
    rw [List.take_append_drop] at c
    rw [PySem.W.go_top (g1 w os) (PySem.W.piece_block (g2 w os) c)]
    rw [hr] at q q5 q6
    obtain ⟨s, hs, eo⟩ := Option.map_eq_some_iff.mp q
    rw [hs] at q5 q6
    rw [hs]
    have a := Option.some.inj q5
    have z := Option.some.inj q6
    simp only [Prod.mk.injEq] at a
    exact congrArg some (Prod.ext (Prod.ext a.1 (Prod.ext a.2.1 (Prod.ext a.2.2.1 (Prod.ext a.2.2.2 z)))) eo)
end Law
namespace L2
open PySem PySem.Spec PyProof.Rows
abbrev Key := Sum Int Str
def keyIs : Key → Value → Bool
  | .inl k, v => Value.isInt k v
  | .inr x, v => Value.isStrOf x v
def keyH (w : World) : Key → Int
  | .inl k => hashInt k
  | .inr x => hashStr w x
theorem keyIs_shape : ∀ {k : Key} {v : Value}, keyIs k v = true → (∃ i t, k = Sum.inl i ∧ v = Value.int i t) ∨ (∃ x t, k = Sum.inr x ∧ v = Value.str x t)
  | .inl i, v, h => by
    obtain ⟨t, e⟩ := Value.isInt_shape (k := i) (v := v) h
    exact .inl ⟨i, t, rfl, e⟩
  | .inr x, v, h => by
    obtain ⟨t, e⟩ := Value.isStrOf_shape (x := x) (v := v) h
    exact .inr ⟨x, t, rfl, e⟩
theorem key_ll (a b : Int) : decide ((Sum.inl a : Key) = Sum.inl b) = (a == b) := by
  by_cases e : a = b
  · subst e; simp
  · have h : ¬ (Sum.inl a : Key) = Sum.inl b := fun q => e (Sum.inl.inj q)
    rw [decide_eq_false h]
    exact (beq_eq_false_iff_ne.mpr e).symm
theorem key_rr (a b : Str) : decide ((Sum.inr a : Key) = Sum.inr b) = decide (a = b) := by
  by_cases e : a = b
  · subst e; simp
  · have h : ¬ (Sum.inr a : Key) = Sum.inr b := fun q => e (Sum.inr.inj q)
    rw [decide_eq_false h, decide_eq_false e]
theorem key_lr (a : Int) (b : Str) : decide ((Sum.inl a : Key) = Sum.inr b) = false := decide_eq_false (fun q => nomatch q)
theorem key_rl (a : Str) (b : Int) : decide ((Sum.inr a : Key) = Sum.inl b) = false := decide_eq_false (fun q => nomatch q)
def mixKind (prog : Program) (w : World) : PySem.KeyKind prog w Key where
  is := keyIs
  hash := keyH w
  inj := fun v a b ha hb => by
    rcases keyIs_shape ha with ⟨i, t, rfl, rfl⟩ | ⟨x, t, rfl, rfl⟩
    · rcases keyIs_shape hb with ⟨j, u, rfl, e⟩ | ⟨y, u, rfl, e⟩
      · injection e with e1 _; rw [e1]
      · exact nomatch e
    · rcases keyIs_shape hb with ⟨j, u, rfl, e⟩ | ⟨y, u, rfl, e⟩
      · exact nomatch e
      · injection e with e1 _; rw [e1]
  byValue := fun k v h => by
    rcases keyIs_shape h with ⟨i, t, rfl, rfl⟩ | ⟨x, t, rfl, rfl⟩ <;> rfl
  pyHash := fun hv h => by
    rcases keyIs_shape hv with ⟨i, t, rfl, rfl⟩ | ⟨x, t, rfl, rfl⟩
    · exact wpAny_pyHash_int h
    · exact wpAny_pyHash_str h
  eqBool := fun hu hv h => by
    rcases keyIs_shape hu with ⟨i, t, rfl, rfl⟩ | ⟨x, t, rfl, rfl⟩
    · rcases keyIs_shape hv with ⟨j, u, rfl, rfl⟩ | ⟨y, u, rfl, rfl⟩
      · rw [key_ll] at h; exact wpAny_eqBool_int h
      · rw [key_lr] at h; exact SeqAt.EqAt.int_str i t y u _ _ _ _ h
    · rcases keyIs_shape hv with ⟨j, u, rfl, rfl⟩ | ⟨y, u, rfl, rfl⟩
      · rw [key_rl] at h; exact SeqAt.EqAt.str_int x t j u _ _ _ _ h
      · rw [key_rr] at h; exact wpAny_eqBool_str h
  «strs» := fun k x t v h => by
    rcases keyIs_shape h with ⟨i, u, rfl, e⟩ | ⟨y, u, rfl, e⟩
    · exact nomatch e
    · injection e with e1 _
      subst e1
      cases v <;> rfl
end L2
namespace L2
open PySem PySem.Spec PyProof.Rows
inductive V where
  | non | bl (b : Bool) | int (i : Int) | str (x : Str) | byt (b : Array UInt8) | flt (b : UInt64) | ref (a : Addr) | ty (n : String)
  deriving DecidableEq
def RelV : V → Value → Prop
  | .non, u => u = Value.none
  | .bl b, u => u = Value.bool b
  | .int i, u => ∃ t, u = Value.int i t
  | .str x, u => ∃ t, u = Value.str x t
  | .byt b, u => ∃ t, u = Value.bytes b t
  | .flt b, u => ∃ t, u = Value.float b t
  | .ref a, u => u = Value.ref a
  | .ty n, u => u = Value.type n
abbrev Vals : List V → List Value → Prop := Paired RelV
theorem Vals.length {xs : List V} {us : List Value} (r : Vals xs us) : xs.length = us.length := Paired.length r
theorem Vals.get : ∀ {xs : List V} {us : List Value} {i : Nat} {x : V}, Vals xs us → xs[i]? = some x → ∃ u, us[i]? = some u ∧ RelV x u
  | _, _, _, _, .nil, e => by simp at e
  | _, _, 0, _, .cons r _, e => by simp at e; subst e; exact ⟨_, rfl, r⟩
  | _, _, i + 1, x, .cons _ t, e => by
    obtain ⟨u, h1, h2⟩ := Vals.get (i := i) (x := x) t (by simpa using e)
    exact ⟨u, by simpa using h1, h2⟩
theorem Vals.append : ∀ {xs ys : List V} {us ws : List Value}, Vals xs us → Vals ys ws → Vals (xs ++ ys) (us ++ ws)
  | _, _, _, _, .nil, s => s
  | _, _, _, _, .cons r t, s => .cons r (Vals.append t s)
theorem Vals.take : ∀ {xs : List V} {us : List Value} (n : Nat), Vals xs us → Vals (xs.take n) (us.take n)
  | _, _, 0, _ => .nil
  | _, _, _ + 1, .nil => .nil
  | _, _, n + 1, .cons r t => .cons r (Vals.take n t)
theorem Vals.drop : ∀ {xs : List V} {us : List Value} (n : Nat), Vals xs us → Vals (xs.drop n) (us.drop n)
  | _, _, 0, r => r
  | _, _, _ + 1, .nil => .nil
  | _, _, n + 1, .cons _ t => Vals.drop n t
def RelO : Option V → Option Value → Prop
  | some v, some u => RelV v u
  | none, none => True
  | _, _ => False
def KV {κ : Type} : List (κ × V) → List (κ × Value) → Prop := Paired fun (p : κ × V) (q : κ × Value) => p.1 = q.1 ∧ RelV p.2 q.2
def kV : Key → V
  | .inl i => .int i
  | .inr x => .str x
inductive HO where
  /-- a list -/
  | lst (xs : List V)
  /-- a tuple (never changes) -/
  | tup (xs : List V)
  /-- a dict whose keys are ints and texts; one whose keys are tuples of ints and texts (the empty one is both) -/
  | dK (kvs : List (Key × V)) | dT (kvs : List (List Key × V))
  /-- a set of ints: its members, its size -/
  | set (S : Int → Bool) (n : Nat)
  /-- an instance of the class at C, its dict at dx, its attributes -/
  | ins (C dx : Addr) (fs : List (Str × V))
  /-- the dict of the instance at x -/
  | own (x : Addr)
  /-- the dict of an exception -/
  | xd (fs : List (Str × V))
  /-- a bound method, f of x -/
  | met (f x : Addr)
  /-- a range object lo, lo + 1, .. below hi -/
  | rng (lo hi : Int)
  /-- a thing that is known to the object (the script; a dict while a loop walks it): read, never written while it is so -/
  | frz (o : Obj) (u : HO)
  /-- a code object's table -/
  | tbl (ps : Array Value)
  /-- any other thing, by what is true of its one object (a def of one's own: SetO a S n := HO.ext fun h => ..) -/
  | ext (φ : Heap → Prop)
abbrev Hp := Addr → Option HO
def upd (H : Hp) (a : Addr) (o : HO) : Hp := fun b => if b = a then some o else H b
theorem upd_same {H : Hp} {a : Addr} {o : HO} : upd H a o a = some o := by unfold upd; rw [if_pos rfl]
theorem upd_ne {H : Hp} {a b : Addr} {o : HO} (h : b ≠ a) : upd H a o b = H b := by unfold upd; rw [if_neg h]
theorem ne_of {H : Hp} {a b : Addr} {o u : HO} (h : H a = some o) (h' : H b = some u) (d : o ≠ u) : a ≠ b := by
  intro e; subst e; rw [h] at h'; exact d (Option.some.inj h')
theorem ne_of_none {H : Hp} {a b : Addr} {o : HO} (h : H a = some o) (h' : H b = none) : a ≠ b := by
  intro e; subst e; rw [h] at h'; cases h'
section
variable (P : Program) (w : World)
def ObjOk (H : Hp) (h : Heap) (a : Addr) : HO → Prop
  | .lst xs => xs.length ≤ sizeLine ∧ ∃ (its : List Value) (n : Nat), Vals xs its ∧ h.get? a = some { cls := .type "list", data := .seq its.toArray n }
  | .tup xs => xs.length ≤ sizeLine ∧ ∃ its : List Value, Vals xs its ∧ IsTup h a its.toArray
  | .dK kvs => kvs.length ≤ sizeLine ∧ (a == sysModules) = false ∧ ∃ vs, KV kvs vs ∧ h.DictOf (mixKind P w) a vs
  | .dT kvs => kvs.length ≤ sizeLine ∧ (a == sysModules) = false ∧ ∃ xs : List (List Key × Addr × Value),
      Paired (fun (p : List Key × V) (q : List Key × Addr × Value) => p.1 = q.1 ∧ H q.2.1 = some (.tup (p.1.map kV)) ∧ RelV p.2 q.2.2) kvs xs ∧
      ∃ o es ep, h.get? a = some o ∧ o.ExactDict ∧ o.data = .dict es ep ∧ es.toList = xs.map (entryOfKey (tupleKind (mixKind P w))) ∧ (xs.map (·.1)).Nodup
  | .set S n => h.SetOf (intKind P w) a S n
  | .ins C dx fs => H dx = some (.own a) ∧ fs.length ≤ 1000 ∧ dx ≠ a ∧ h.get? a = some (PySem.W.instObj C dx) ∧
      ∃ mA, h.Ns1 dx mA ∧ (∀ f, RelO (fs.lookup f) (mA f)) ∧ PySem.Within mA (fs.map (·.1))
  | .own _ => ∃ o, h.get? a = some o
  | .xd fs => ∃ mA, h.Ns1 a mA ∧ ∀ f, RelO (fs.lookup f) (mA f)
  | .rng lo hi => ∃ t u v, h.get? a = some { cls := .type "range", data := .fields #[.int lo t, .int hi u, .int 1 v] }
  | .frz o u => h.get? a = some o ∧ ObjOk H h a u
  | .tbl ps => h.get? a = some { cls := .none, data := .fields ps }
  | .met f x => h.get? a = some (PySem.W.methodObj (.ref f) (.ref x))
  | .ext φ => φ h ∧ (∃ o, h.get? a = some o) ∧ ∀ h1 h2 : Heap, φ h1 → (∀ o, h1.get? a = some o → h2.get? a = some o) → φ h2
def HOk (H : Hp) (h : Heap) : Prop := ∀ a o, H a = some o → ObjOk P w H h a o
end
section
variable {P : Program} {w : World} {H H' : Hp} {h h' : Heap} {a : Addr} {o : HO}
theorem ObjOk.lt (x : ObjOk P w H h a o) : a < h.objs.size := by
  cases o with
  | lst xs => obtain ⟨_, _, _, _, e⟩ := x; exact Heap.lt_size e
  | tup xs => obtain ⟨_, _, _, p⟩ := x; exact p.lt
  | dK kvs => obtain ⟨_, _, _, _, o, _, _, e, _⟩ := x; exact Heap.lt_size e
  | dT kvs => obtain ⟨_, _, _, _, o, _, _, e, _⟩ := x; exact Heap.lt_size e
  | set S n => obtain ⟨o, _, _, _, e, _⟩ := x; exact Heap.lt_size e
  | ins C dx fs => obtain ⟨_, _, _, e, _⟩ := x; exact Heap.lt_size e
  | own y => obtain ⟨_, e⟩ := x; exact Heap.lt_size e
  | xd fs => obtain ⟨_, ⟨_, _, _, e, _⟩, _⟩ := x; exact Heap.lt_size e
  | rng lo hi => obtain ⟨_, _, _, e⟩ := x; exact Heap.lt_size e
  | frz ob u => obtain ⟨e, _⟩ := x; exact Heap.lt_size e
  | tbl ps => exact Heap.lt_size (show h.get? a = some _ from x)
  | met f y => exact Heap.lt_size (show h.get? a = some _ from x)
  | ext φ => obtain ⟨_, ⟨_, e⟩, _⟩ := x; exact Heap.lt_size e
theorem Paired.mapP {α β : Type} {F G : α → β → Prop} : ∀ {l₁ : List α} {l₂ : List β}, Paired F l₁ l₂ → (∀ a b, F a b → G a b) → Paired G l₁ l₂
  | _, _, .nil, _ => .nil
  | _, _, .cons r t, f => .cons (f _ _ r) (Paired.mapP t f)
theorem ObjOk.stay (x : ObjOk P w H h a o) (k : ∀ b u, (b = a ∨ H b = some (.own a)) → h.get? b = some u → h'.get? b = some u)
    (ho : ∀ b, H b = some (.own a) → H' b = some (.own a)) (ht : ∀ b xs, H b = some (.tup xs) → H' b = some (.tup xs)) : ObjOk P w H' h' a o := by
  induction o with
  | lst xs => obtain ⟨z, its, n, r, e⟩ := x; exact ⟨z, its, n, r, k _ _ (.inl rfl) e⟩
  | tup xs => obtain ⟨z, its, r, ob, e, c⟩ := x; exact ⟨z, its, r, ob, k _ _ (.inl rfl) e, c⟩
  | dK kvs => obtain ⟨z, y, vs, r, ob, es, ep, e, c⟩ := x; exact ⟨z, y, vs, r, ob, es, ep, k _ _ (.inl rfl) e, c⟩
  | dT kvs =>
    obtain ⟨z, y, xs, r, ob, es, ep, e, c⟩ := x
    exact ⟨z, y, xs, Paired.mapP r fun p q z => ⟨z.1, ht _ _ z.2.1, z.2.2⟩, ob, es, ep, k _ _ (.inl rfl) e, c⟩
  | set S n => obtain ⟨ob, es, ep, t, e, c⟩ := x; exact ⟨ob, es, ep, t, k _ _ (.inl rfl) e, c⟩
  | ins C dx fs =>
    obtain ⟨d, z, ne, e, mA, ⟨od, es, ep, e2, c⟩, r⟩ := x
    exact ⟨ho _ d, z, ne, k _ _ (.inl rfl) e, mA, ⟨od, es, ep, k _ _ (.inr d) e2, c⟩, r⟩
  | own y => obtain ⟨ob, e⟩ := x; exact ⟨ob, k _ _ (.inl rfl) e⟩
  | xd fs => obtain ⟨mA, ⟨od, es, ep, e, c⟩, r⟩ := x; exact ⟨mA, ⟨od, es, ep, k _ _ (.inl rfl) e, c⟩, r⟩
  | rng lo hi => obtain ⟨t, u, v, e⟩ := x; exact ⟨t, u, v, k _ _ (.inl rfl) e⟩
  | frz ob u ih => obtain ⟨e, q⟩ := x; exact ⟨k _ _ (.inl rfl) e, ih q⟩
  | tbl ps =>
    have e : h.get? a = some { cls := .none, data := .fields ps } := x
    show h'.get? a = some { cls := .none, data := .fields ps }
    exact k a _ (.inl rfl) e
  | met f y =>
    have e : h.get? a = some (PySem.W.methodObj (.ref f) (.ref y)) := x
    show h'.get? a = some (PySem.W.methodObj (.ref f) (.ref y))
    exact k a _ (.inl rfl) e
  | ext φ => obtain ⟨p, ⟨o, e⟩, st⟩ := x; exact ⟨st _ _ p fun o q => k _ _ (.inl rfl) q, ⟨o, k _ _ (.inl rfl) e⟩, st⟩
theorem HOk.lt (x : HOk P w H h) (e : H a = some o) : a < h.objs.size := (x a o e).lt
theorem HOk.fresh (x : HOk P w H h) (e : h.objs.size ≤ a) : H a = none := by
  cases q : H a with
  | none => rfl
  | some u => exact absurd (Nat.lt_of_lt_of_le (x.lt q) e) (Nat.lt_irrefl _)
theorem HOk.kept (x : HOk P w H h) (k : ∀ b u, h.get? b = some u → h'.get? b = some u) : HOk P w H h' := fun a o e =>
  (x a o e).stay (fun b u _ q => k b u q) (fun _ q => q) fun _ _ q => q
theorem HOk.laid (x : HOk P w H h) (k : ∀ b u, h.get? b = some u → h'.get? b = some u) (hp : h.objs.size ≤ a) (new : ObjOk P w (upd H a o) h' a o) : HOk P w (upd H a o) h' := fun b u e => by
  have hn := x.fresh hp
  by_cases hb : b = a
  · subst hb; rw [upd_same] at e; cases e; exact new
  · rw [upd_ne hb] at e
    exact (x b u e).stay (fun c v _ q => k c v q) (fun c q => by rw [upd_ne (ne_of_none q hn)]; exact q) fun c xs q => by rw [upd_ne (ne_of_none q hn)]; exact q
end
def Rd (H : Hp) (a : Addr) (u : HO) : Prop := H a = some u ∨ ∃ o, H a = some (.frz o u)
theorem Rd.ok {P : Program} {w : World} {H : Hp} {h : Heap} {a : Addr} {u : HO} (r : Rd H a u) (x : HOk P w H h) : ObjOk P w H h a u := by
  rcases r with r | ⟨o, r⟩
  · exact x a u r
  · obtain ⟨_, q⟩ := x a _ r
    exact q
def Mut : Option HO → Prop
  | some (.lst _) => True
  | some (.dK _) => True
  | some (.dT _) => True
  | some (.set _ _) => True
  | some (.ins _ _ _) => True
  | some (.ext _) => True
  | _ => False
section
variable {P : Program} {w : World} {H : Hp} {h h' : Heap} {x e : Addr} {o' : HO}
theorem HOk.write (ok : HOk P w H h) (mu : Mut (H x)) (he : e = x ∨ H e = some (.own x)) (k : ∀ b u, b ≠ e → h.get? b = some u → h'.get? b = some u) (heo : ∃ u, h'.get? e = some u)
    (new : ObjOk P w (upd H x o') h' x o') : HOk P w (upd H x o') h' := fun b u q => by
  have nown : ∀ c y, H c = some (.own y) → c ≠ x := fun c y r z => by subst z; rw [r] at mu; exact mu
  have ntup : ∀ c xs, H c = some (.tup xs) → c ≠ x := fun c xs r z => by subst z; rw [r] at mu; exact mu
  by_cases hb : b = x
  · subst hb; rw [upd_same] at q; cases q; exact new
  · rw [upd_ne hb] at q
    by_cases hbe : b = e
    · have q' : H b = some (.own x) := by
        rcases he with z | z
        · exact absurd (hbe.trans z) hb
        · rw [hbe]; exact z
      rw [q] at q'; cases q'
      obtain ⟨v, hv⟩ := heo
      exact ⟨v, by rw [hbe]; exact hv⟩
    · refine (ok b u q).stay (fun c v hc r => k c v ?_ r) (fun c r => by rw [upd_ne (nown c b r)]; exact r) fun c xs r => by rw [upd_ne (ntup c xs r)]; exact r
      rcases hc with rfl | hc
      · exact hbe
      · rintro rfl
        rcases he with z | z
        · exact nown c b hc z
        · rw [hc] at z; cases z; exact hb rfl
end
structure Un (fs ex : List Addr) (H H' : Hp) (h h' : Heap) : Prop where
  keep : ∀ b o, h.get? b = some o → H b = none → b ∉ fs → b ∉ ex → h'.get? b = some o
  slot : ∀ b o, h.get? b = some o → H b = none → b ∈ fs → b ∉ ex → ∃ sl, h'.get? b = some { o with slots := sl }
  free : ∀ b o, h.get? b = some o → H b = none → b ∉ ex → H' b = none
  there : ∀ b o, h.get? b = some o → b ∉ ex → ∃ o', h'.get? b = some o'
  tups : ∀ b xs, H b = some (.tup xs) → H' b = some (.tup xs)
  frzs : ∀ b o u, H b = some (.frz o u) → H' b = some (.frz o u)
  tbls : ∀ b ps, H b = some (.tbl ps) → ∃ more, H' b = some (.tbl (ps ++ more))
section
variable {fs fs' ex ex' : List Addr} {H H1 H2 : Hp} {h h1 h2 h' : Heap} {a x e : Addr} {o : HO}
theorem Un.any (u : Un fs ex H H1 h h1) {b : Addr} {ob : Obj} (q : h.get? b = some ob) (n : H b = none) (hx : b ∉ ex) : ∃ sl, h1.get? b = some { ob with slots := sl } := by
  by_cases hb : b ∈ fs
  · exact u.slot b ob q n hb hx
  · exact ⟨ob.slots, u.keep b ob q n hb hx⟩
theorem Un.kept (k : ∀ b u, h.get? b = some u → h'.get? b = some u) : Un fs ex H H h h' :=
  ⟨fun b ob q _ _ _ => k b ob q, fun b ob q _ _ _ => ⟨ob.slots, k b ob q⟩, fun _ _ _ n _ => n, fun b ob q _ => ⟨ob, k b ob q⟩, fun _ _ q => q, fun _ _ _ q => q, fun _ ps q => ⟨#[], by rw [q]; simp⟩⟩
theorem Un.refl : Un fs ex H H h h := Un.kept fun _ _ q => q
theorem Un.laid (k : ∀ b u, h.get? b = some u → h'.get? b = some u) (hp : h.objs.size ≤ a) (hn : H a = none) : Un fs ex H (upd H a o) h h' where
  keep := fun b u q _ _ _ => k b u q
  slot := fun b u q _ _ _ => ⟨u.slots, k b u q⟩
  free := fun b u q n _ => by rw [upd_ne (Nat.ne_of_lt (Nat.lt_of_lt_of_le (Heap.lt_size q) hp))]; exact n
  there := fun b u q _ => ⟨u, k b u q⟩
  tups := fun b xs q => by rw [upd_ne (ne_of_none q hn)]; exact q
  frzs := fun b u xs q => by rw [upd_ne (ne_of_none q hn)]; exact q
  tbls := fun b ps q => ⟨#[], by rw [upd_ne (ne_of_none q hn), q]; simp⟩
theorem Un.write (mu : Mut (H x)) (he : e = x ∨ H e = some (.own x)) (k : ∀ b u, b ≠ e → h.get? b = some u → h'.get? b = some u) (heo : ∃ u, h'.get? e = some u) : Un fs ex H (upd H x o) h h' := by
  have hx : ∀ b, H b = none → b ≠ x := fun b n z => by subst z; rw [n] at mu; exact mu
  have hb : ∀ b, H b = none → b ≠ e := fun b n z => by
    subst z
    rcases he with r | r
    · exact hx b n r
    · rw [n] at r; cases r
  have hm : ∀ b u, H b = some u → ¬ Mut (some u) → b ≠ x := fun b u q nm z => by subst z; rw [q] at mu; exact nm mu
  refine ⟨fun b u q n _ _ => k b u (hb b n) q, fun b u q n _ _ => ⟨u.slots, k b u (hb b n) q⟩, fun b u q n _ => by rw [upd_ne (hx b n)]; exact n, fun b u q _ => ?_,
    fun b xs q => by rw [upd_ne (hm b _ q fun z => z)]; exact q, fun b u xs q => by rw [upd_ne (hm b _ q fun z => z)]; exact q, fun b ps q => ⟨#[], by rw [upd_ne (hm b _ q fun z => z), q]; simp⟩⟩
  by_cases hbe : b = e
  · subst hbe; exact heo
  · exact ⟨u, k b u hbe q⟩
end
def trk (h : Heap) (H : Hp) : List Addr := (List.range h.objs.size).filter fun a => (H a).isSome
def hidT (h : Heap) (H : Hp) : Heap := PySem.W.hideAll h (trk h H)
theorem hidT_size (h : Heap) (H : Hp) : (hidT h H).objs.size = h.objs.size := PySem.W.hideAll_size _ _
theorem hidT_get {h : Heap} {H : Hp} {b : Addr} {o : Obj} (e : h.get? b = some o) (n : H b = none) : (hidT h H).get? b = some o :=
  PySem.W.hideAll_get _ e fun hm => by
    have q : (H b).isSome = true := (List.mem_filter.mp hm).2
    rw [n] at q; simp at q
theorem of_hidT {h : Heap} {H : Hp} {b : Addr} {o : Obj} (e : (hidT h H).get? b = some o) : h.get? b = some o ∧ H b = none := by
  have e' : h.get? b = some o := PySem.W.of_hideAll (trk h H) e
  refine ⟨e', ?_⟩
  cases q : H b with
  | none => rfl
  | some x =>
    have hm : b ∈ trk h H := List.mem_filter.mpr ⟨List.mem_range.mpr (Heap.lt_size e'), by simp [q]⟩
    have z : (hidT h H).get? b = none := PySem.W.hideAll_none (trk h H) hm
    rw [z] at e; cases e
end L2
namespace L2
open PySem PySem.Spec PyProof.Rows
structure Mod (K : PySem.W.Frag) (mg : Str → Option Value) (base : Heap) : Prop where
  kin : K.In base
  glob : base.Ns mainGlobals mg
  blt : ∃ mb, base.Ns builtinsNs mb ∧ ∀ x : Str, x ≠ "__name__" → mb x = bootBuiltins x
  nolimit : base.NoLimit
  seer : base.NoSeer
structure Cx where
  prog : Program
  w : World
  K : PySem.W.Frag
  mg : Str → Option Value
  base : Heap
  A : Around
  N : List Str
  s₀ : Shared
  H₀ : Hp
  env : Env
  outer : List Env
  stack : List Env
  ex : List Addr
  fn : Str → Bool
  calm : Bool
  pn : List (Addr × Obj)
  xe : Value → Shared → Prop
def frs (l : List Env) : List Addr := l.filterMap (·.frame)
abbrev Cx.fs (X : Cx) : List Addr := frs X.outer
def Vis (sc : Scope) (x : Str) : Prop := sc.names.lookup x = some .local ∨ sc.names.lookup x = some .cell ∨ sc.names.lookup x = some .free
def Loc (sc : Scope) (x : Str) : Prop := sc.names.lookup x = some .local ∨ sc.names.lookup x = some .cell
def Look (env : Env) (h : Heap) (m : Str → Option Value) (x : Str) (u : Value) : Prop :=
  (env.kindOf x = some .local ∧ m x = some u) ∨ ((env.kindOf x = some .cell ∨ env.kindOf x = some .free) ∧ ∃ c, env.cells.lookup x = some c ∧ h.IsCell c (some u))
structure Cx.Ok (X : Cx) : Prop where
  mod : Mod X.K X.mg X.base
  kind : X.env.scope.kind = .function
  glob : X.env.globals = mainGlobals
  blt : X.env.builtins = builtinsNs
  above : X.s₀.heap.objs.size ≤ X.env.locals
  inj : ∀ x y c, X.env.cells.lookup x = some c → X.env.cells.lookup y = some c → x = y
  has : ∀ x, (X.env.kindOf x = some .cell ∨ X.env.kindOf x = some .free) → ∃ c, X.env.cells.lookup x = some c
  cab : ∀ x c, X.fn x = true → X.env.cells.lookup x = some c → X.s₀.heap.objs.size ≤ c
  hd : X.calm = true → X.A.handled = none
  frames : X.A.frames = some X.stack
  stk : X.stack = X.outer ∨ (X.stack = X.env :: X.outer ∧ X.env.frame = some X.env.locals)
  exf : ∀ b ∈ X.ex, b ≠ X.env.locals ∧ ∀ x c, X.env.cells.lookup x = some c → c ≠ b
  bs : ∀ b o, X.base.get? b = some o → X.s₀.heap.get? b = some o ∧ X.H₀ b = none
  bsz : X.base.objs.size ≤ X.s₀.heap.objs.size
  noex : ∀ b o, X.base.get? b = some o → b ∉ X.ex
  exfs : ∀ b ∈ X.ex, b ∉ X.fs
  funs : X.s₀.heap.FunFrames X.base X.outer
  frf : ∀ b ∈ X.fs, X.H₀ b = none
structure Inv (X : Cx) (pins : List (Addr × Obj)) (σ : List (Option V)) (H : Hp) (s : Shared) : Prop where
  ok : X.Ok
  os : s.os = X.s₀.os
  bare : AllBare s.gens
  base : Un X.fs X.ex X.H₀ H X.s₀.heap s.heap
  loc : ∃ m, s.heap.Ns X.env.locals m ∧ ∀ (i : Nat) (x : Str) (v : V), X.N[i]? = some x → σ[i]? = some (some v) → Vis X.env.scope x → ∃ u, RelV v u ∧ Look X.env s.heap m x u
  cell : ∀ x c, X.env.cells.lookup x = some c → ∃ v, s.heap.IsCell c v
  free : H X.env.locals = none
  freeC : ∀ x c, X.env.cells.lookup x = some c → H c = none
  pin : ∀ p ∈ X.pn ++ pins, s.heap.get? p.1 = some p.2 ∧ H p.1 = none ∧ p.1 ≠ X.env.locals ∧ p.1 ∉ X.fs ∧ ∀ v, p.2.data ≠ .cell v
  hok : HOk X.prog X.w H s.heap
  len : σ.length = X.N.length
section
variable {X : Cx} {pins : List (Addr × Obj)} {σ : List (Option V)} {H H' : Hp} {s : Shared} {h' : Heap}
theorem Cx.Ok.nofr (ok : X.Ok) {b : Addr} {o : Obj} (e : X.base.get? b = some o) : b ∉ X.fs := fun hb => by
  have := (ok.funs.mem hb).1
  rw [e] at this; cases this
theorem Inv.bs (I : Inv X pins σ H s) : ∀ b o, X.base.get? b = some o → s.heap.get? b = some o ∧ H b = none := fun b o e =>
  ⟨I.base.keep b o (I.ok.bs b o e).1 (I.ok.bs b o e).2 (I.ok.nofr e) (I.ok.noex b o e), I.base.free b o (I.ok.bs b o e).1 (I.ok.bs b o e).2 (I.ok.noex b o e)⟩
theorem Inv.bk (I : Inv X pins σ H s) : ∀ b o, X.base.get? b = some o → s.heap.get? b = some o := fun b o e => (I.bs b o e).1
theorem Inv.mod (I : Inv X pins σ H s) : Mod X.K X.mg X.base := I.ok.mod
theorem Inv.kIn (I : Inv X pins σ H s) : X.K.In s.heap := I.ok.mod.kin.keeps I.bk
theorem Inv.nolimit (I : Inv X pins σ H s) : s.heap.NoLimit := I.ok.mod.nolimit.keeps I.bk
theorem Inv.lt (I : Inv X pins σ H s) : X.env.locals < s.heap.objs.size := let ⟨_, hn, _⟩ := I.loc; hn.lt
theorem Inv.sz (I : Inv X pins σ H s) : X.s₀.heap.objs.size ≤ s.heap.objs.size := Nat.le_trans I.ok.above (Nat.le_of_lt I.lt)
theorem Inv.nofs (I : Inv X pins σ H s) {a : Addr} (h : s.heap.objs.size ≤ a) : a ∉ X.fs := fun hb => by
  obtain ⟨_, o, ho, _⟩ := I.ok.funs.mem hb
  exact absurd (Nat.lt_of_lt_of_le (Heap.lt_size ho) (Nat.le_trans I.sz h)) (Nat.lt_irrefl _)
theorem Inv.cne (I : Inv X pins σ H s) : ∀ x c, X.env.cells.lookup x = some c → c ≠ X.env.locals := fun x c e z => by
  obtain ⟨v, o, ho, hd⟩ := I.cell x c e
  obtain ⟨m, ⟨o', es, ep, ho', hd', _⟩, _⟩ := I.loc
  rw [z, ho'] at ho; cases ho; rw [hd'] at hd; cases hd
theorem Inv.funs (I : Inv X pins σ H s) : s.heap.FunFrames X.base X.outer := by
  have all : ∀ (l : List Env), (∀ b ∈ frs l, b ∈ X.fs) → X.s₀.heap.FunFrames X.base l → s.heap.FunFrames X.base l := by
    intro l
    induction l with
    | nil => intro _ _; trivial
    | cons env r ih =>
      intro hs hl
      obtain ⟨hk, ⟨L, o, hf, hn, ho, hd⟩, hr⟩ := hl
      have hL : L ∈ X.fs := hs L (by unfold frs; rw [List.filterMap_cons, hf]; exact List.mem_cons_self)
      obtain ⟨sl, e⟩ := I.base.slot L o ho (I.ok.frf L hL) hL fun z => I.ok.exfs L z hL
      exact ⟨hk, ⟨L, _, hf, hn, e, hd⟩, ih (fun b hb => hs b (by unfold frs; rw [List.filterMap_cons, hf]; exact List.mem_cons_of_mem _ hb)) hr⟩
  exact all X.outer (fun _ hb => hb) I.ok.funs
theorem Inv.stack (I : Inv X pins σ H s) : s.heap.FunFrames X.base X.stack := by
  rcases I.ok.stk with e | ⟨e, hf⟩
  · rw [e]; exact I.funs
  · rw [e]
    obtain ⟨m, hn, _⟩ := I.loc
    refine .cons (by rw [I.ok.kind]; decide) hf hn ?_ I.funs
    exact Heap.get?_none_of_le (Nat.le_trans I.ok.bsz I.ok.above)
theorem Inv.stkSub (I : Inv X pins σ H s) : ∀ b ∈ frs X.stack, b ∈ X.env.locals :: X.fs := fun b hb => by
  rcases I.ok.stk with e | ⟨e, hf⟩
  · rw [e] at hb; exact List.mem_cons_of_mem _ hb
  · rw [e] at hb
    unfold frs at hb
    rw [List.filterMap_cons, hf] at hb
    exact hb
theorem Inv.stkFree (I : Inv X pins σ H s) : ∀ b ∈ frs X.stack, H b = none := fun b hb => by
  rcases List.mem_cons.mp (I.stkSub b hb) with e | hb
  · rw [e]; exact I.free
  · obtain ⟨_, o, ho, _⟩ := I.ok.funs.mem hb
    exact I.base.free b o ho (I.ok.frf b hb) fun z => I.ok.exfs b z hb
theorem Inv.step {g' : Array GenState} {t' : Nat} {d' : Drawn} {ch : List Addr} (I : Inv X pins σ H s)
    (hch : ∀ b ∈ ch, (b ∈ X.ex ∨ X.s₀.heap.objs.size ≤ b) ∧ b ≠ X.env.locals ∧ (∀ x c, X.env.cells.lookup x = some c → c ≠ b) ∧ ∀ p ∈ X.pn ++ pins, p.1 ≠ b)
    (keep : ∀ b o, b ≠ X.env.locals → b ∉ X.fs → b ∉ ch → s.heap.get? b = some o → H b = none → h'.get? b = some o)
    (slot : ∀ b o, b ≠ X.env.locals → b ∈ X.fs → b ∉ ch → s.heap.get? b = some o → H b = none → ∃ sl, h'.get? b = some { o with slots := sl }) (free : ∀ b o, b ∉ ch → s.heap.get? b = some o → H b = none → H' b = none)
    (there : ∀ b o, b ∉ ch → s.heap.get? b = some o → ∃ o', h'.get? b = some o')
    (tups : ∀ b xs, H b = some (.tup xs) → H' b = some (.tup xs)) (frzs : ∀ b o u, H b = some (.frz o u) → H' b = some (.frz o u)) (tbls : ∀ b ps, H b = some (.tbl ps) → ∃ more, H' b = some (.tbl (ps ++ more)))
    (ns : ∀ m, s.heap.Ns X.env.locals m → h'.Ns X.env.locals m) (hok : HOk X.prog X.w H' h') (hg : AllBare g') :
    Inv X pins σ H' { s with heap := h', gens := g', drawn := d', toks := t' } := by
  have neL : ∀ b o, X.s₀.heap.get? b = some o → b ≠ X.env.locals := fun b o e => Nat.ne_of_lt (Nat.lt_of_lt_of_le (Heap.lt_size e) I.ok.above)
  have neC : ∀ b o, X.s₀.heap.get? b = some o → b ∉ X.ex → b ∉ ch := fun b o e hx hb => by
    rcases (hch b hb).1 with z | z
    · exact hx z
    · exact absurd (Nat.lt_of_lt_of_le (Heap.lt_size e) z) (Nat.lt_irrefl _)
  have cellK : ∀ x c, X.env.cells.lookup x = some c → ∀ v, s.heap.IsCell c v → h'.IsCell c v := fun x c e v ⟨o, ho, hd⟩ => by
    have nch : c ∉ ch := fun z => (hch c z).2.2.1 x c e rfl
    by_cases hc : c ∈ X.fs
    · obtain ⟨sl, q⟩ := slot c o (I.cne x c e) hc nch ho (I.freeC x c e)
      exact ⟨_, q, hd⟩
    · exact ⟨o, keep c o (I.cne x c e) hc nch ho (I.freeC x c e), hd⟩
  refine ⟨I.ok, I.os, hg, ⟨fun b o e n hb hx => ?_, fun b o e n hb hx => ?_, fun b o e n hx => ?_, fun b o e hx => ?_, fun b xs e => tups b xs (I.base.tups b xs e), fun b o xs e => frzs b o xs (I.base.frzs b o xs e), fun b ps e => ?_⟩, ?_, fun x c e => ?_, ?_, fun x c e => ?_, fun p hp => ?_, hok, I.len⟩
  · exact keep b o (neL b o e) hb (neC b o e hx) (I.base.keep b o e n hb hx) (I.base.free b o e n hx)
  · obtain ⟨sl, e1⟩ := I.base.slot b o e n hb hx
    obtain ⟨sl', e2⟩ := slot b _ (neL b o e) hb (neC b o e hx) e1 (I.base.free b o e n hx)
    exact ⟨sl', e2⟩
  · obtain ⟨o', e1⟩ := I.base.there b o e hx
    exact free b o' (neC b o e hx) e1 (I.base.free b o e n hx)
  · obtain ⟨o', e1⟩ := I.base.there b o e hx
    exact there b o' (neC b o e hx) e1
  · obtain ⟨m1, e1⟩ := I.base.tbls b ps e
    obtain ⟨m2, e2⟩ := tbls b _ e1
    exact ⟨m1 ++ m2, by rw [e2, Array.append_assoc]⟩
  · obtain ⟨m, hn, hl⟩ := I.loc
    refine ⟨m, ns m hn, fun i x v e1 e2 e3 => ?_⟩
    obtain ⟨u, r, l⟩ := hl i x v e1 e2 e3
    refine ⟨u, r, ?_⟩
    rcases l with l | ⟨k, c, e, z⟩
    · exact .inl l
    · exact .inr ⟨k, c, e, cellK x c e _ z⟩
  · obtain ⟨v, z⟩ := I.cell x c e
    exact ⟨v, cellK x c e v z⟩
  · obtain ⟨m, ⟨o, _, _, ho, _⟩, _⟩ := I.loc
    exact free _ o (fun z => (hch _ z).2.1 rfl) ho I.free
  · obtain ⟨v, o, ho, hd⟩ := I.cell x c e
    exact free c o (fun z => (hch c z).2.2.1 x c e rfl) ho (I.freeC x c e)
  · obtain ⟨e, n, ne, nf, d⟩ := I.pin p hp
    have nch : p.1 ∉ ch := fun z => (hch p.1 z).2.2.2 p hp rfl
    exact ⟨keep p.1 p.2 ne nf nch e n, free p.1 p.2 nch e n, ne, nf, d⟩
theorem Inv.un {t' : Nat} (I : Inv X pins σ H s) (u : Un X.fs [] H H' s.heap h') (hok : HOk X.prog X.w H' h') : Inv X pins σ H' { s with heap := h', toks := t' } := by
  obtain ⟨m, ⟨o, es, ep, ho, r⟩, _⟩ := id I.loc
  obtain ⟨sl, hL⟩ := u.any ho I.free (by simp)
  exact I.step (g' := s.gens) (d' := s.drawn) (ch := []) (fun _ z => nomatch z) (fun b o _ hb _ e n => u.keep b o e n hb (by simp)) (fun b o _ hb _ e n => u.slot b o e n hb (by simp)) (fun b o _ e n => u.free b o e n (by simp)) (fun b o _ e => u.there b o e (by simp)) u.tups u.frzs u.tbls (fun m' hm => by
    obtain ⟨o', es', ep', ho', r'⟩ := hm
    rw [ho] at ho'; cases ho'
    exact ⟨_, es', ep', hL, r'⟩) hok I.bare
theorem Inv.call {g' : Array GenState} {t' : Nat} {d' : Drawn} {ch : List Addr} (I : Inv X pins σ H s) (u : Un (frs X.stack) ch H H' s.heap h') (hok : HOk X.prog X.w H' h') (hg : AllBare g')
    (hch : ∀ b ∈ ch, (b ∈ X.ex ∨ X.s₀.heap.objs.size ≤ b) ∧ b ≠ X.env.locals ∧ (∀ x c, X.env.cells.lookup x = some c → c ≠ b) ∧ ∀ p ∈ X.pn ++ pins, p.1 ≠ b) :
    Inv X pins σ H' { s with heap := h', gens := g', drawn := d', toks := t' } := by
  obtain ⟨m, ⟨o, es, ep, ho, r⟩, _⟩ := id I.loc
  obtain ⟨sl, hL⟩ := u.any ho I.free fun z => (hch _ z).2.1 rfl
  exact I.step (ch := ch) hch (fun b o hL hb hc e n => u.keep b o e n (fun z => (List.mem_cons.mp (I.stkSub b z)).elim hL hb) hc) (fun b o _ _ hc e n => u.any e n hc) (fun b o hc e n => u.free b o e n hc) (fun b o hc e => u.there b o e hc) u.tups u.frzs u.tbls (fun m' hm => by
    obtain ⟨o', es', ep', ho', r'⟩ := hm
    rw [ho] at ho'; cases ho'
    exact ⟨_, es', ep', hL, r'⟩) hok hg
theorem Inv.turned {t' : Nat} {it : Addr} (I : Inv X pins σ H s) (k : ∀ b o, b ≠ it → s.heap.get? b = some o → h'.get? b = some o) (hn : H it = none) (hL : it ≠ X.env.locals)
    (h1 : it ∈ X.ex ∨ X.s₀.heap.objs.size ≤ it) (h2 : ∀ x c, X.env.cells.lookup x = some c → c ≠ it) (h3 : ∀ p ∈ X.pn ++ pins, p.1 ≠ it) : Inv X pins σ H { s with heap := h', toks := t' } := by
  have nit : ∀ b u, H b = some u → b ≠ it := fun b u e z => by rw [z, hn] at e; cases e
  refine I.step (g' := s.gens) (d' := s.drawn) (ch := [it]) (fun b hb => ?_) (fun b o _ _ hc e _ => k b o (fun z => hc (by simp [z])) e) (fun b o _ _ hc e _ => ⟨o.slots, k b o (fun z => hc (by simp [z])) e⟩) (fun _ _ _ _ n => n)
    (fun b o hc e => ⟨o, k b o (fun z => hc (by simp [z])) e⟩) (fun _ _ e => e) (fun _ _ _ e => e) (fun b ps e => ⟨#[], by rw [e]; simp⟩) (fun m hm => ?_) (fun b u e => ?_) I.bare
  · have e : b = it := by simpa using hb
    subst e
    exact ⟨h1, hL, h2, h3⟩
  · obtain ⟨o, es, ep, ho, r⟩ := hm
    exact ⟨o, es, ep, k _ o (Ne.symm hL) ho, r⟩
  · refine (I.hok b u e).stay (fun c v hc q => k c v ?_ q) (fun _ q => q) fun _ _ q => q
    rcases hc with z | z
    · rw [z]; exact nit b u e
    · exact nit c _ z
theorem Inv.tok (I : Inv X pins σ H s) (t : Nat) : Inv X pins σ H { s with toks := t } := I.un (h' := s.heap) (t' := t) Un.refl I.hok
theorem Inv.kept {t' : Nat} (I : Inv X pins σ H s) (k : ∀ b u, s.heap.get? b = some u → h'.get? b = some u) : Inv X pins σ H { s with heap := h', toks := t' } := I.un (Un.kept k) (I.hok.kept k)
theorem Inv.laid {a : Addr} {o : HO} {t' : Nat} (I : Inv X pins σ H s) (k : ∀ b u, s.heap.get? b = some u → h'.get? b = some u) (hp : s.heap.objs.size ≤ a) (new : ObjOk X.prog X.w (upd H a o) h' a o) :
    Inv X pins σ (upd H a o) { s with heap := h', toks := t' } := I.un (Un.laid k hp (I.hok.fresh hp)) (I.hok.laid k hp new)
theorem Inv.write {x e : Addr} {o : HO} {t' : Nat} (I : Inv X pins σ H s) (mu : Mut (H x)) (he : e = x ∨ H e = some (.own x)) (k : ∀ b u, b ≠ e → s.heap.get? b = some u → h'.get? b = some u) (heo : ∃ u, h'.get? e = some u)
    (new : ObjOk X.prog X.w (upd H x o) h' x o) : Inv X pins σ (upd H x o) { s with heap := h', toks := t' } := I.un (Un.write mu he k heo) (I.hok.write mu he k heo new)
theorem Inv.pins_of {pins' : List (Addr × Obj)} (I : Inv X pins σ H s) (h : ∀ p ∈ pins', s.heap.get? p.1 = some p.2 ∧ H p.1 = none ∧ p.1 ≠ X.env.locals ∧ p.1 ∉ X.fs ∧ ∀ v, p.2.data ≠ .cell v) : Inv X pins' σ H s :=
  ⟨I.ok, I.os, I.bare, I.base, I.loc, I.cell, I.free, I.freeC, fun p hp => (List.mem_append.mp hp).elim (fun z => I.pin p (List.mem_append_left _ z)) (h p), I.hok, I.len⟩
theorem nodup_ix {N : List Str} (hN : N.Nodup) {i j : Nat} {x : Str} (a : N[i]? = some x) (b : N[j]? = some x) : i = j := by
  obtain ⟨h1, e1⟩ := List.getElem?_eq_some_iff.mp a
  obtain ⟨h2, e2⟩ := List.getElem?_eq_some_iff.mp b
  exact (List.getElem_inj hN).mp (e1.trans e2.symm)
theorem store_ok2 {M : Model} {A : Around} {E : Value → Shared → Prop} {i : Nat} {x : Str} {v : V} {u : Value} {Q : Unit → Shared → Prop} (I : Inv X pins σ H s) (hN : X.N.Nodup) (hi : X.N[i]? = some x) (hx : Loc X.env.scope x) (r : RelV v u)
    (h : ∀ s', Inv X pins (σ.set i (some v)) H s' → (∃ a, Heap.SameBut a s.heap s'.heap ∧ (a = X.env.locals ∨ X.env.cells.lookup x = some a)) → Q () s') (hf : X.fn x = true ∨ X.env.scope.names.lookup x = some .local := by first | exact .inl rfl | exact .inr rfl | assumption) : wpAny M A (storeName X.env x u) Q E s := by
  obtain ⟨m, hn, hl⟩ := id I.loc
  have hcls : (X.env.scope.kind == .class || (X.env.scope.kind == .module && X.env.locals != X.env.globals)) = false := by rw [I.ok.kind]; rfl
  have hiσ : i < σ.length := by rw [I.len]; exact (List.getElem?_eq_some_iff.mp hi).1
  have cne := I.cne
  have tracked : ∀ {a : Addr} {h' : Heap}, (∃ o, s.heap.get? a = some o ∧ H a = none) → Heap.SameBut a s.heap h' → HOk X.prog X.w H h' := fun {a h'} ha hs b ob e => by
    obtain ⟨_, _, hfree⟩ := ha
    refine (I.hok b ob e).stay (fun c w' hc q => (hs.2 c ?_).trans q) (fun _ q => q) fun _ _ q => q
    rintro rfl
    rcases hc with rfl | hc
    · rw [hfree] at e; cases e
    · rw [hfree] at hc; cases hc
  rcases hx with hk | hk
  · refine wpAny_storeName_local hk hn (fun h' hn' hs => ?_) hcls
    obtain ⟨oL, _, _, hoL, _⟩ := id hn
    refine h _ ⟨I.ok, I.os, I.bare, ⟨fun b o e n hb hx => ?_, fun b o e n hb hx => ?_, I.base.free, fun b o e hx => ?_, I.base.tups, I.base.frzs, I.base.tbls⟩, ⟨_, hn', fun j y v' e1 e2 e3 => ?_⟩, fun y c e => ?_, I.free, I.freeC, fun p hp => ?_, tracked ⟨oL, hoL, I.free⟩ hs, by simpa using I.len⟩ ⟨_, hs, .inl rfl⟩
    · exact (hs.2 b (Nat.ne_of_lt (Nat.lt_of_lt_of_le (Heap.lt_size e) I.ok.above))).trans (I.base.keep b o e n hb hx)
    · obtain ⟨sl, e1⟩ := I.base.slot b o e n hb hx
      exact ⟨sl, (hs.2 b (Nat.ne_of_lt (Nat.lt_of_lt_of_le (Heap.lt_size e) I.ok.above))).trans e1⟩
    · obtain ⟨o', e1⟩ := I.base.there b o e hx
      exact ⟨o', (hs.2 b (Nat.ne_of_lt (Nat.lt_of_lt_of_le (Heap.lt_size e) I.ok.above))).trans e1⟩
    · by_cases hj : j = i
      · subst hj
        rw [hi] at e1; cases e1
        rw [List.getElem?_set_self hiσ] at e2
        cases e2
        exact ⟨u, r, .inl ⟨hk, by simp⟩⟩
      · rw [List.getElem?_set_ne (Ne.symm hj)] at e2
        obtain ⟨u', r', q⟩ := hl j y v' e1 e2 e3
        refine ⟨u', r', ?_⟩
        rcases q with ⟨k, e⟩ | ⟨k, c, e, z⟩
        · refine .inl ⟨k, ?_⟩
          have : y ≠ x := fun e => hj (nodup_ix hN e1 (e ▸ hi))
          simp [this, e]
        · exact .inr ⟨k, c, e, z.sameBut hs (cne y c e)⟩
    · obtain ⟨w', z⟩ := I.cell y c e
      exact ⟨w', z.sameBut hs (cne y c e)⟩
    · obtain ⟨e, n, ne, nf, d⟩ := I.pin p hp
      exact ⟨(hs.2 p.1 ne).trans e, n, ne, nf, d⟩
  · have hfn : X.fn x = true := by
      rcases hf with z | z
      · exact z
      · rw [z] at hk; cases hk
    obtain ⟨c, hc⟩ := I.ok.has x (.inl hk)
    obtain ⟨w', z⟩ := I.cell x c hc
    refine wpAny_storeName_cell I.ok.kind hk hc z (fun h' hc' hs => ?_)
    obtain ⟨oc, hoc, hocd⟩ := id z
    refine h { s with heap := h' } ⟨I.ok, I.os, I.bare, ⟨fun b o e n hb hx => ?_, fun b o e n hb hx => ?_, I.base.free, fun b o e hx => ?_, I.base.tups, I.base.frzs, I.base.tbls⟩, ⟨m, hn.sameBut hs (Ne.symm (cne x c hc)), fun j y v' e1 e2 e3 => ?_⟩, fun y c' e => ?_, I.free, I.freeC, fun p hp => ?_, tracked ⟨oc, hoc, I.freeC x c hc⟩ hs, by simpa using I.len⟩ ⟨c, hs, .inr hc⟩
    · exact (hs.2 b (Nat.ne_of_lt (Nat.lt_of_lt_of_le (Heap.lt_size e) (I.ok.cab x c hfn hc)))).trans (I.base.keep b o e n hb hx)
    · obtain ⟨sl, e1⟩ := I.base.slot b o e n hb hx
      exact ⟨sl, (hs.2 b (Nat.ne_of_lt (Nat.lt_of_lt_of_le (Heap.lt_size e) (I.ok.cab x c hfn hc)))).trans e1⟩
    · obtain ⟨o', e1⟩ := I.base.there b o e hx
      exact ⟨o', (hs.2 b (Nat.ne_of_lt (Nat.lt_of_lt_of_le (Heap.lt_size e) (I.ok.cab x c hfn hc)))).trans e1⟩
    · by_cases hj : j = i
      · subst hj
        rw [hi] at e1; cases e1
        rw [List.getElem?_set_self hiσ] at e2
        cases e2
        exact ⟨u, r, .inr ⟨.inl hk, c, hc, hc'⟩⟩
      · rw [List.getElem?_set_ne (Ne.symm hj)] at e2
        obtain ⟨u', r', q⟩ := hl j y v' e1 e2 e3
        refine ⟨u', r', ?_⟩
        rcases q with q | ⟨k, c', e, z'⟩
        · exact .inl q
        · refine .inr ⟨k, c', e, z'.sameBut hs ?_⟩
          rintro rfl
          exact hj (nodup_ix hN e1 (I.ok.inj _ _ _ e hc ▸ hi))
    · by_cases hcc : c' = c
      · subst hcc; exact ⟨_, hc'⟩
      · obtain ⟨w2, z2⟩ := I.cell y c' e
        exact ⟨w2, z2.sameBut hs hcc⟩
    · obtain ⟨e, n, ne, nf, d⟩ := I.pin p hp
      refine ⟨(hs.2 p.1 ?_).trans e, n, ne, nf, d⟩
      intro q
      rw [q, hoc] at e
      have q' : oc = p.2 := Option.some.inj e
      exact d w' (by rw [← q']; exact hocd)
theorem store_ok {M : Model} {A : Around} {E : Value → Shared → Prop} {i : Nat} {x : Str} {v : V} {u : Value} {Q : Unit → Shared → Prop} (I : Inv X pins σ H s) (hN : X.N.Nodup) (hi : X.N[i]? = some x) (hx : Loc X.env.scope x) (r : RelV v u)
    (h : ∀ s', Inv X pins (σ.set i (some v)) H s' → Q () s') (hf : X.fn x = true ∨ X.env.scope.names.lookup x = some .local := by first | exact .inl rfl | exact .inr rfl | assumption) : wpAny M A (storeName X.env x u) Q E s :=
  store_ok2 I hN hi hx r (fun s' I' _ => h s' I') hf
theorem Inv.call' {s' : Shared} {ch : List Addr} (I : Inv X pins σ H s) (ho : s'.os = s.os) (u : Un (frs X.stack) ch H H' s.heap s'.heap) (hok : HOk X.prog X.w H' s'.heap) (hg : AllBare s'.gens)
    (hch : ∀ b ∈ ch, (b ∈ X.ex ∨ X.s₀.heap.objs.size ≤ b) ∧ b ≠ X.env.locals ∧ (∀ x c, X.env.cells.lookup x = some c → c ≠ b) ∧ ∀ p ∈ X.pn ++ pins, p.1 ≠ b) : Inv X pins σ H' s' := by
  obtain ⟨h', g', d', t', o'⟩ := s'
  have e : o' = s.os := ho
  subst e
  exact I.call (g' := g') (t' := t') (d' := d') u hok hg hch
end
abbrev XK := Value → Option Addr → Hp → Prop
abbrev St := List (Option V)
abbrev VK := V → Hp → Prop
abbrev TE := St → Hp → VK → Prop
abbrev TT := St → Hp → (Bool → Hp → Prop) → Prop
abbrev TA := St → Hp → (List V → Hp → Prop) → Prop
structure Ends where
  nx : St → Hp → Prop
  rt : VK
  bk : St → Hp → Prop := fun _ _ => False
  ct : St → Hp → Prop := fun _ _ => False
abbrev TS := Ends → St → Hp → Prop
def EP (X : Cx) (pins : List (Addr × Obj)) (σ : St) (Q : VK) (u : Value) (s' : Shared) : Prop := ∃ v H', Inv X pins σ H' s' ∧ RelV v u ∧ Q v H'
def TP (X : Cx) (pins : List (Addr × Obj)) (σ : St) (Q : Bool → Hp → Prop) (b : Bool) (s' : Shared) : Prop := ∃ H', Inv X pins σ H' s' ∧ Q b H'
def AP (X : Cx) (pins : List (Addr × Obj)) (σ : St) (Q : List V → Hp → Prop) (us : List Value) (s' : Shared) : Prop := ∃ vs H', Inv X pins σ H' s' ∧ Vals vs us ∧ Q vs H'
def SP (X : Cx) (pins : List (Addr × Obj)) (D : Ends) (f : Flow) (s' : Shared) : Prop :=
  match f with
  | .next => ∃ σ' H', Inv X pins σ' H' s' ∧ D.nx σ' H'
  | .brk => ∃ σ' H', Inv X pins σ' H' s' ∧ D.bk σ' H'
  | .cont => ∃ σ' H', Inv X pins σ' H' s' ∧ D.ct σ' H'
  | .ret u => ∃ v σ' H', Inv X pins σ' H' s' ∧ RelV v u ∧ D.rt v H'
def PE (X : Cx) (e : Expr) (t : TE) : Prop :=
  ∀ (pins : List (Addr × Obj)) (s : Shared) (σ : St) (H : Hp) (Q : VK), Inv X pins σ H s → t σ H Q → wpAny (model X.prog X.w) X.A (eval e X.env) (EP X pins σ Q) X.xe s
def PT (X : Cx) (e : Expr) (t : TT) : Prop :=
  ∀ (pins : List (Addr × Obj)) (s : Shared) (σ : St) (H : Hp) (Q : Bool → Hp → Prop), Inv X pins σ H s → t σ H Q → wpAny (model X.prog X.w) X.A (isTrue e X.env (eval e X.env)) (TP X pins σ Q) X.xe s
def PW (X : Cx) (e : Expr) (t : TT) : Prop :=
  ∀ (whole : Sem Value) (pins : List (Addr × Obj)) (s : Shared) (σ : St) (H : Hp) (Q : Bool → Hp → Prop), Inv X pins σ H s → t σ H Q → wpAny (model X.prog X.w) X.A (isTrue e X.env whole) (TP X pins σ Q) X.xe s
theorem PW.pt {X : Cx} {e : Expr} {t : TT} (h : PW X e t) : PT X e t := h _
def PA (X : Cx) (es : List Expr) (t : TA) : Prop :=
  ∀ (pos : Pos) (pins : List (Addr × Obj)) (s : Shared) (σ : St) (H : Hp) (Q : List V → Hp → Prop), Inv X pins σ H s → t σ H Q → wpAny (model X.prog X.w) X.A (spliced (backTo pos (starEach es X.env))) (AP X pins σ Q) X.xe s
def PS (X : Cx) (st : Stmt) (t : TS) : Prop :=
  ∀ (pins : List (Addr × Obj)) (s : Shared) (σ : St) (H : Hp) (D : Ends), Inv X pins σ H s → t D σ H → wpAny (model X.prog X.w) X.A (exec st X.env) (SP X pins D) X.xe s
def PSs (X : Cx) (st : List Stmt) (t : TS) : Prop :=
  ∀ (pins : List (Addr × Obj)) (s : Shared) (σ : St) (H : Hp) (D : Ends), Inv X pins σ H s → t D σ H → wpAny (model X.prog X.w) X.A (execs st X.env) (SP X pins D) X.xe s
theorem thn {α : Type} {t : Sem α} {Q Q' : α → Shared → Prop} {M : Model} {A : Around} {E : Value → Shared → Prop} {s : Shared} (h : wpAny M A t Q E s) (hQ : ∀ a s, Q a s → Q' a s) : wpAny M A t Q' E s := wpAny_mono h hQ fun _ _ x => x
end L2
namespace L2
open PySem PySem.Spec PyProof.Rows
section
variable {X : Cx}
def tVar (i : Nat) : TE := fun σ H Q => ∃ v, σ[i]? = some (some v) ∧ Q v H
def tC (v : V) : TE := fun _ H Q => Q v H
theorem pe_var {i : Nat} {x : Str} {pos : Pos} (hN : X.N[i]? = some x) (hv : Vis X.env.scope x) (hd : (x == ("__debug__" : Str)) = false := by decide) (hcd : (x == ("__classdict__" : Str)) = false := by decide) : PE X (.Name x pos) (tVar i) := by
  intro pins s σ H Q I h
  obtain ⟨v, e, h⟩ := h
  obtain ⟨m, hn, hl⟩ := I.loc
  obtain ⟨u, r, l⟩ := hl i x v hN e hv
  have fin : EP X pins σ Q u s := ⟨v, H, I, r, h⟩
  rcases l with ⟨hk, hm⟩ | ⟨hk, c, hc, hcell⟩
  · exact wpAny_Name (wpAny_loadName_local I.ok.kind hk hn hm fin) hd
  · rcases hk with hk | hk
    · exact wpAny_Name (wpAny_loadName_cell I.ok.kind hk hc hcell fin) hd
    · exact wpAny_Name (wpAny_loadName_free I.ok.kind hk hc hcell fin hcd) hd
theorem pe_int {i j pos} : PE X (.Constant (.int i) j pos) (tC (.int i)) := fun _ _ _ H _ I h => wpAny_Constant_int ⟨.int i, H, I.tok _, ⟨_, rfl⟩, h⟩
theorem pe_bl {b j pos} : PE X (.Constant (.bool b) j pos) (tC (.bl b)) := fun _ _ _ H _ I h => Constant_bool ⟨.bl b, H, I, rfl, h⟩
theorem pe_str {x j pos} : PE X (.Constant (.str x) j pos) (tC (.str x)) := fun _ _ _ H _ I h => Calls.Constant_str ⟨.str x, H, I.tok _, ⟨_, rfl⟩, h⟩
def Gl (X : Cx) (x : Str) : Prop := X.env.kindOf x = some .globalImplicit
theorem ld_glob {E : Value → Shared → Prop} {pins : List (Addr × Obj)} {s : Shared} {σ : St} {H : Hp} {x : Str} {u : Value} {pos : Pos} {Q : Value → Shared → Prop} (I : Inv X pins σ H s) (hg : Gl X x) (hm : X.mg x = some u) (h : Q u s)
    (hd : (x == ("__debug__" : Str)) = false := by decide) : wpAny (model X.prog X.w) X.A (eval (.Name x pos) X.env) Q E s :=
  Calls.Name_function_global I.ok.kind hg (Calls.loadGlobal_global (by rw [I.ok.glob]; exact I.mod.glob.keeps I.bk) hm h) hd
theorem ld_blt {E : Value → Shared → Prop} {pins : List (Addr × Obj)} {s : Shared} {σ : St} {H : Hp} {x : Str} {u : Value} {pos : Pos} {Q : Value → Shared → Prop} (I : Inv X pins σ H s) (hg : Gl X x) (hm : X.mg x = none) (hv : bootBuiltins x = some u) (h : Q u s)
    (hn : x ≠ "__name__" := by decide) (hd : (x == ("__debug__" : Str)) = false := by decide) : wpAny (model X.prog X.w) X.A (eval (.Name x pos) X.env) Q E s := by
  obtain ⟨mb, h1, h2⟩ := I.mod.blt
  exact Calls.Name_function_global I.ok.kind hg (Calls.loadGlobal_builtin (by rw [I.ok.glob]; exact I.mod.glob.keeps I.bk) hm (by rw [I.ok.blt]; exact h1.keeps I.bk) ((h2 x hn).trans hv) h) hd
theorem pe_glob {x : Str} {v : V} {u : Value} {pos : Pos} (hg : Gl X x) (hm : X.mg x = some u) (r : RelV v u) (hd : (x == ("__debug__" : Str)) = false := by decide) : PE X (.Name x pos) (tC v) :=
  fun _ _ _ H _ I h => ld_glob I hg hm ⟨v, H, I, r, h⟩ hd
theorem pe_bltn {x : Str} {v : V} {u : Value} {pos : Pos} (hg : Gl X x) (hm : X.mg x = none) (hv : bootBuiltins x = some u) (r : RelV v u) (hn : x ≠ "__name__" := by decide) (hd : (x == ("__debug__" : Str)) = false := by decide) : PE X (.Name x pos) (tC v) :=
  fun _ _ _ H _ I h => ld_blt I hg hm hv ⟨v, H, I, r, h⟩ hn hd
variable {a b : Expr} {ta tb : TE} {pos : Pos}
def tB (t : TE) : TT := fun σ H Q => t σ H fun x H1 => ∃ c, x = .bl c ∧ Q c H1
theorem pt_val {e : Expr} {t : TE} (h : PE X e t) (he : ∀ whole, isTrue e X.env whole = (do let v ← whole; standAt e.pos; holding [v] (truthy v)) := by intro _; rfl) : PT X e (tB t) := by
  intro pins s σ H Q I hw
  refine isTrue_plain (thn (h pins s σ H _ I hw) fun v s1 ⟨x, H1, I1, r1, q1⟩ => ?_) (he _)
  obtain ⟨d, rfl, q⟩ := q1
  cases r1
  exact wpAny_truthy_bool ⟨H1, I1, q⟩
variable {tA tB' : TT} {rest : List Expr}
def tAnd (t u : TT) : TT := fun σ H Q => t σ H fun c H1 => if c = true then u σ H1 Q else Q false H1
def tOr (t u : TT) : TT := fun σ H Q => t σ H fun c H1 => if c = true then Q true H1 else u σ H1 Q
def tNot (t : TT) : TT := fun σ H Q => t σ H fun c H1 => Q (!c) H1
theorem pw_and1 (ha : PT X a tA) : PW X (.BoolOp .And [a] pos) tA := by
  intro wh pins s σ H Q I h
  refine isTrue_and (thn (ha pins s σ H Q I h) fun c s1 e => ?_)
  cases c with
  | true => exact isTrue_and_nil e
  | false => exact e
theorem pw_or1 (ha : PT X a tA) : PW X (.BoolOp .Or [a] pos) tA := by
  intro wh pins s σ H Q I h
  refine isTrue_or (thn (ha pins s σ H Q I h) fun c s1 e => ?_)
  cases c with
  | false => exact isTrue_or_nil e
  | true => exact e
theorem pw_and (ha : PT X a tA) (hb : PW X (.BoolOp .And (b :: rest) pos) tB') : PW X (.BoolOp .And (a :: b :: rest) pos) (tAnd tA tB') := by
  intro wh pins s σ H Q I h
  refine isTrue_and (thn (ha pins s σ H _ I h) fun c s1 ⟨H1, I1, q1⟩ => ?_)
  cases c with
  | true => exact hb wh pins s1 σ H1 Q I1 q1
  | false => exact ⟨H1, I1, q1⟩
theorem pw_or (ha : PT X a tA) (hb : PW X (.BoolOp .Or (b :: rest) pos) tB') : PW X (.BoolOp .Or (a :: b :: rest) pos) (tOr tA tB') := by
  intro wh pins s σ H Q I h
  refine isTrue_or (thn (ha pins s σ H _ I h) fun c s1 ⟨H1, I1, q1⟩ => ?_)
  cases c with
  | true => exact ⟨H1, I1, q1⟩
  | false => exact hb wh pins s1 σ H1 Q I1 q1
theorem pt_not (ha : PT X a tA) : PT X (.UnaryOp .Not a pos) (tNot tA) := by
  intro pins s σ H Q I h
  exact isTrue_not (ha pins s σ H (fun c H1 => Q (!c) H1) I h)
def tAndV (ta tb : TE) : TE := fun σ H Q => ta σ H fun x H1 => ∃ c, x = .bl c ∧ if c = true then tb σ H1 Q else Q (.bl false) H1
def tOrV (ta tb : TE) : TE := fun σ H Q => ta σ H fun x H1 => ∃ c, x = .bl c ∧ if c = true then Q (.bl true) H1 else tb σ H1 Q
def tNotV (ta : TE) : TE := fun σ H Q => ta σ H fun x H1 => ∃ c, x = .bl c ∧ Q (.bl (!c)) H1
theorem pe_one {op} {t : TE} (h : PE X a t) : PE X (.BoolOp op [a] pos) t := fun pins s σ H Q I hw => BoolOp_one (h pins s σ H Q I hw)
theorem pe_and (ha : PE X a ta) (hb : PE X (.BoolOp .And (b :: rest) pos) tb) : PE X (.BoolOp .And (a :: b :: rest) pos) (tAndV ta tb) := by
  intro pins s σ H Q I h
  refine BoolOp_and (thn (ha pins s σ H _ I h) fun v s1 ⟨x, H1, I1, r1, q1⟩ => ?_)
  obtain ⟨c, rfl, q1⟩ := q1
  cases r1
  refine wpAny_truthy_bool ?_
  cases c with
  | true => exact hb pins s1 σ H1 Q I1 q1
  | false => exact ⟨.bl false, H1, I1, rfl, q1⟩
theorem pe_or (ha : PE X a ta) (hb : PE X (.BoolOp .Or (b :: rest) pos) tb) : PE X (.BoolOp .Or (a :: b :: rest) pos) (tOrV ta tb) := by
  intro pins s σ H Q I h
  refine BoolOp_or (thn (ha pins s σ H _ I h) fun v s1 ⟨x, H1, I1, r1, q1⟩ => ?_)
  obtain ⟨c, rfl, q1⟩ := q1
  cases r1
  refine wpAny_truthy_bool ?_
  cases c with
  | false => exact hb pins s1 σ H1 Q I1 q1
  | true => exact ⟨.bl true, H1, I1, rfl, q1⟩
theorem pe_not (ha : PE X a ta) : PE X (.UnaryOp .Not a pos) (tNotV ta) := by
  intro pins s σ H Q I h
  refine UnaryOp_ (thn (ha pins s σ H _ I h) fun v s1 ⟨x, H1, I1, r1, q1⟩ => ?_)
  obtain ⟨c, rfl, q1⟩ := q1
  cases r1
  exact not_of (wpAny_truthy_bool ⟨.bl (!c), H1, I1, rfl, q1⟩)
def tIf (t : TT) (ta tb : TE) : TE := fun σ H Q => t σ H fun c H1 => if c = true then ta σ H1 Q else tb σ H1 Q
theorem pe_ifExp {c : Expr} (hc : PT X c tA) (ha : PE X a ta) (hb : PE X b tb) : PE X (.IfExp c a b pos) (tIf tA ta tb) := by
  intro pins s σ H Q I h
  refine wpAny_IfExp (thn (hc pins s σ H _ I h) fun d s1 ⟨H1, I1, q1⟩ => ?_)
  cases d with
  | true => exact ha pins s1 σ H1 Q I1 q1
  | false => exact hb pins s1 σ H1 Q I1 q1
end
end L2
namespace L2
open PySem PySem.Spec PyProof.Rows
def SqL (K : PySem.W.Frag) (H : Hp) (a : Addr) (xs : List V) : Prop :=
  Rd H a (.lst xs) ∨
    ∃ (o : Obj) (its : Array Value) (n : Nat), K.lookup a = some o ∧ o.cls = .type "list" ∧ o.dict = none ∧ o.data = .seq its n ∧ its.size ≤ sizeLine ∧ Vals xs its.toList
def SqT (K : PySem.W.Frag) (H : Hp) (a : Addr) (xs : List V) : Prop :=
  Rd H a (.tup xs) ∨
    ∃ (o : Obj) (its : Array Value) (n : Nat), K.lookup a = some o ∧ o.cls = .type "tuple" ∧ o.data = .seq its n ∧ its.size ≤ sizeLine ∧ Vals xs its.toList
def absV : Value → Option V
  | .none => some .non
  | .bool b => some (.bl b)
  | .int i _ => some (.int i)
  | .str x _ => some (.str x)
  | .bytes b _ => some (.byt b)
  | .float b _ => some (.flt b)
  | .ref a => some (.ref a)
  | .type n => some (.ty n)
  | _ => none
theorem RelV.abs {x : V} {u : Value} (r : RelV x u) : absV u = some x := by
  cases x with
  | non => cases r; rfl
  | bl _ => cases r; rfl
  | int _ => obtain ⟨t, rfl⟩ := r; rfl
  | str _ => obtain ⟨t, rfl⟩ := r; rfl
  | byt _ => obtain ⟨t, rfl⟩ := r; rfl
  | flt _ => obtain ⟨t, rfl⟩ := r; rfl
  | ref _ => cases r; rfl
  | ty _ => cases r; rfl
theorem RelV.inj {x y : V} {u : Value} (r : RelV x u) (q : RelV y u) : x = y := Option.some.inj (r.abs.symm.trans q.abs)
theorem Vals.inj : ∀ {xs ys : List V} {us : List Value}, Vals xs us → Vals ys us → xs = ys
  | _, _, _, .nil, .nil => rfl
  | _, _, _, .cons r t, .cons r' t' => by rw [r.inj r', Vals.inj t t']
section
variable {X : Cx} {pins : List (Addr × Obj)} {σ : St} {H : Hp} {s : Shared} {a : Addr} {xs ys : List V}
theorem SqL.of {K : PySem.W.Frag} (h : H a = some (.lst xs)) : SqL K H a xs := .inl (.inl h)
theorem Inv.list (I : Inv X pins σ H s) (h : SqL X.K H a xs) : ∃ its : List Value, Vals xs its ∧ PlainL s.heap a its.toArray ∧ xs.length ≤ sizeLine := by
  rcases h with h | ⟨o, its, n, hk, hc, hd, hs, hz, r⟩
  · obtain ⟨z, its, n, r, e⟩ := h.ok I.hok
    exact ⟨its, r, ⟨_, n, e, rfl, rfl, rfl⟩, z⟩
  · refine ⟨its.toList, r, ⟨o, n, I.kIn a o hk, hc, hd, by simpa using hs⟩, ?_⟩
    have e := r.length
    simp only [Array.length_toList] at e
    omega
theorem Inv.tuple (I : Inv X pins σ H s) (h : SqT X.K H a xs) : ∃ its : List Value, Vals xs its ∧ IsTup s.heap a its.toArray ∧ xs.length ≤ sizeLine := by
  rcases h with h | ⟨o, its, n, hk, hc, hs, hz, r⟩
  · obtain ⟨z, its, r, p⟩ := h.ok I.hok
    exact ⟨its, r, p, z⟩
  · refine ⟨its.toList, r, ⟨o, I.kIn a o hk, hc, n, by simpa using hs⟩, ?_⟩
    have e := r.length
    simp only [Array.length_toList] at e
    omega
theorem Inv.list_inj (I : Inv X pins σ H s) (h : SqL X.K H a xs) (h' : SqL X.K H a ys) : xs = ys := by
  obtain ⟨its, r, ⟨o, n, e, _, _, d⟩, _⟩ := I.list h
  obtain ⟨its', r', ⟨o', n', e', _, _, d'⟩, _⟩ := I.list h'
  rw [e] at e'; cases e'
  rw [d] at d'
  injection d' with d1 _
  have : its = its' := by simpa using congrArg Array.toList d1
  subst this
  exact r.inj r'
theorem Inv.tuple_inj (I : Inv X pins σ H s) (h : SqT X.K H a xs) (h' : SqT X.K H a ys) : xs = ys := by
  obtain ⟨its, r, ⟨o, e, _, n, d⟩, _⟩ := I.tuple h
  obtain ⟨its', r', ⟨o', e', _, n', d'⟩, _⟩ := I.tuple h'
  rw [e] at e'; cases e'
  rw [d] at d'
  injection d' with d1 _
  have : its = its' := by simpa using congrArg Array.toList d1
  subst this
  exact r.inj r'
end
abbrev Cx.wish (X : Cx) (E : Value → Shared → Prop) : Cx := { X with xe := E }
abbrev Cx.nox (X : Cx) : Cx := X.wish fun _ _ => False
theorem Cx.Ok.wish {X : Cx} (ok : X.Ok) (E : Value → Shared → Prop) : (X.wish E).Ok :=
  ⟨ok.mod, ok.kind, ok.glob, ok.blt, ok.above, ok.inj, ok.has, ok.cab, ok.hd, ok.frames, ok.stk, ok.exf, ok.bs, ok.bsz, ok.noex, ok.exfs, ok.funs, ok.frf⟩
theorem Cx.Ok.unwish {X : Cx} {E : Value → Shared → Prop} (ok : (X.wish E).Ok) : X.Ok :=
  ⟨ok.mod, ok.kind, ok.glob, ok.blt, ok.above, ok.inj, ok.has, ok.cab, ok.hd, ok.frames, ok.stk, ok.exf, ok.bs, ok.bsz, ok.noex, ok.exfs, ok.funs, ok.frf⟩
section
variable {X : Cx} {pins : List (Addr × Obj)} {σ : St} {H : Hp} {s : Shared} {E : Value → Shared → Prop}
theorem Inv.wish (I : Inv X pins σ H s) (E : Value → Shared → Prop) : Inv (X.wish E) pins σ H s := ⟨I.ok.wish E, I.os, I.bare, I.base, I.loc, I.cell, I.free, I.freeC, I.pin, I.hok, I.len⟩
theorem Inv.unwish (I : Inv (X.wish E) pins σ H s) : Inv X pins σ H s := ⟨I.ok.unwish, I.os, I.bare, I.base, I.loc, I.cell, I.free, I.freeC, I.pin, I.hok, I.len⟩
theorem SP.unwish {D : Ends} {f : Flow} {s' : Shared} (h : SP (X.wish E) pins D f s') : SP X pins D f s' := by
  cases f with
  | next => obtain ⟨σ', H', I, q⟩ := h; exact ⟨σ', H', I.unwish, q⟩
  | brk => obtain ⟨σ', H', I, q⟩ := h; exact ⟨σ', H', I.unwish, q⟩
  | cont => obtain ⟨σ', H', I, q⟩ := h; exact ⟨σ', H', I.unwish, q⟩
  | ret u => obtain ⟨v, σ', H', I, r, q⟩ := h; exact ⟨v, σ', H', I.unwish, r, q⟩
theorem PSs.nox {st : List Stmt} {t : TS} (h : PSs X.nox st t) : PSs X st t := fun pins s σ H D I hw =>
  wpAny_mono (h pins s σ H D (I.wish _) hw) (fun _ _ q => q.unwish) fun _ _ z => False.elim z
end
section
variable {X : Cx} {st : Stmt} {rest : List Stmt} {t u : TS} {e : Expr} {te : TE} {pos : Pos}
def tNext : TS := fun D σ H => D.nx σ H
def tSeq (t u : TS) : TS := fun D σ H => t { D with nx := u D } σ H
theorem pss_nil : PSs X [] tNext := fun _ _ σ H _ I h => wpAny_execs_nil ⟨σ, H, I, h⟩
theorem pss_cons (h1 : PS X st t) (h2 : PSs X rest u) : PSs X (st :: rest) (tSeq t u) := by
  intro pins s σ H D I h
  refine wpAny_execs_cons (thn (h1 pins s σ H { D with nx := u D } I h) fun f s1 q => ?_)
  cases f with
  | next =>
    obtain ⟨σ', H', I', q⟩ := q
    exact h2 pins s1 σ' H' D I' q
  | ret v => exact q
  | brk => exact q
  | cont => exact q
theorem Inv.quiet {pins : List (Addr × Obj)} {σ : St} {H : Hp} {s : Shared} (I : Inv X pins σ H s) : interactive X.env = false := by simp [interactive, I.ok.kind]
def tDrop (te : TE) : TS := fun D σ H => te σ H fun _ H1 => D.nx σ H1
theorem ps_expr (he : PE X e te) (hs : swapsWith e none pos.line X.env = pure false := by rfl) : PS X (.Expr e pos) (tDrop te) := by
  intro pins s σ H D I h
  exact wpAny_Expr_any (thn (he pins s σ H _ I h) fun v s1 ⟨x, H1, I1, r1, q1⟩ => ⟨σ, H1, I1, q1⟩) I.quiet hs
def tRet (te : TE) : TS := fun D σ H => te σ H D.rt
theorem ps_ret (he : PE X e te) : PS X (.Return (some e) pos) (tRet te) := by
  intro pins s σ H D I h
  exact wpAny_Return_some (thn (he pins s σ H _ I h) fun v s1 ⟨x, H1, I1, r1, q1⟩ => ⟨x, σ, H1, I1, r1, q1⟩)
def tIfS (c : TT) (t u : TS) : TS := fun D σ H => c σ H fun b H1 => if b = true then t D σ H1 else u D σ H1
theorem ps_if {c : Expr} {a b : List Stmt} {tc : TT} (hc : PT X c tc) (ha : PSs X a t) (hb : PSs X b u) : PS X (.If c a b pos) (tIfS tc t u) := by
  intro pins s σ H D I h
  refine wpAny_If (thn (hc pins s σ H _ I h) fun d s1 ⟨H1, I1, q1⟩ => ?_)
  cases d with
  | true => exact ha pins s1 σ H1 D I1 q1
  | false => exact hb pins s1 σ H1 D I1 q1
def tNever : TS := fun _ _ _ => False
theorem pss_never {sts : List Stmt} : PSs X sts tNever := fun _ _ _ _ _ _ h => h.elim
end
abbrev TG := V → St → Hp → (St → Hp → Prop) → Prop
abbrev TGs := List V → St → Hp → (St → Hp → Prop) → Prop
def PG (X : Cx) (target : Expr) (t : TG) : Prop :=
  ∀ (pins : List (Addr × Obj)) (s : Shared) (σ : St) (H : Hp) (v : V) (u : Value) (Q : St → Hp → Prop), Inv X pins σ H s → RelV v u → t v σ H Q →
    wpAny (model X.prog X.w) X.A (assign target X.env u) (fun _ s' => ∃ σ' H', Inv X pins σ' H' s' ∧ Q σ' H') X.xe s
def PGs (X : Cx) (ts : List Expr) (t : TGs) : Prop :=
  ∀ (pins : List (Addr × Obj)) (s : Shared) (σ : St) (H : Hp) (vs : List V) (us : List Value) (Q : St → Hp → Prop), Inv X pins σ H s → Vals vs us → t vs σ H Q →
    wpAny (model X.prog X.w) X.A (assignInOrder ((assignEach ts X.env).map (·.2)) us) (fun _ s' => ∃ σ' H', Inv X pins σ' H' s' ∧ Q σ' H') X.xe s
abbrev TSet := V → V → V → Hp → (Hp → Prop) → Prop
def PSet (X : Cx) (t : TSet) : Prop :=
  ∀ (pins : List (Addr × Obj)) (s : Shared) (σ : St) (H : Hp) (o i v : V) (ov iv u : Value) (Q : Hp → Prop), Inv X pins σ H s → RelV o ov → RelV i iv → RelV v u → t o i v H Q →
    wpAny (model X.prog X.w) X.A (setItem ov iv u) (fun _ s' => ∃ H', Inv X pins σ H' s' ∧ Q H') X.xe s
section
variable {X : Cx} {pos : Pos}
def gName (i : Nat) : TG := fun v σ H Q => Q (σ.set i (some v)) H
theorem pg_name {i : Nat} {x : Str} (hN : X.N.Nodup) (hi : X.N[i]? = some x) (hx : Loc X.env.scope x) (hf : X.fn x = true ∨ X.env.scope.names.lookup x = some .local := by first | exact .inl rfl | exact .inr rfl | assumption) : PG X (.Name x pos) (gName i) := by
  intro pins s σ H v u Q I r h
  exact wpAny_assign_Name (store_ok I hN hi hx r (fun s' I' => ⟨_, H, I', h⟩) hf)
def gNil : TGs := fun vs σ H Q => vs = [] ∧ Q σ H
def gCons (t : TG) (u : TGs) : TGs := fun vs σ H Q => ∃ v r, vs = v :: r ∧ t v σ H fun σ' H' => u r σ' H' Q
theorem pgs_nil : PGs X [] gNil := by
  intro pins s σ H vs us Q I r h
  obtain ⟨e, h⟩ := h
  subst e
  cases r
  exact assignInOrder_nil ⟨σ, H, I, h⟩
theorem pgs_cons {e : Expr} {es : List Expr} {t : TG} {u : TGs} (h1 : PG X e t) (h2 : PGs X es u)
    (hs : (assignEach (e :: es) X.env).map (·.2) = assign e X.env :: (assignEach es X.env).map (·.2) := by rfl) : PGs X (e :: es) (gCons t u) := by
  intro pins s σ H vs us Q I r h
  obtain ⟨v, vr, e1, h⟩ := h
  subst e1
  cases r with
  | cons r rr =>
    rw [hs]
    refine assignInOrder_cons (thn (h1 pins s σ H _ _ _ I r h) fun _ s1 ⟨σ1, H1, I1, q1⟩ => ?_)
    exact h2 pins s1 σ1 H1 _ _ Q I1 rr q1
def gTup (K : PySem.W.Frag) (n : Nat) (t : TGs) : TG := fun v σ H Q => ∃ a xs, v = .ref a ∧ SqT K H a xs ∧ xs.length = n ∧ t xs σ H Q
theorem pg_tup {es : List Expr} {k : Nat} {t : TGs} {n : Nat} (hc : X.calm = true) (h : PGs X es t)
    (hn : (assignEach es X.env).length = n := by rfl) (hst : (assignEach es X.env).findIdx? (·.1) = none := by rfl) : PG X (.Tuple es k pos) (gTup X.K n t) := by
  intro pins s σ H v u Q I r hw
  obtain ⟨a, xs, e1, hq, hl, hw⟩ := hw
  subst e1
  cases r
  obtain ⟨its, rv, ht, hz⟩ := I.tuple hq
  refine assign_Tuple_tuple (I.ok.hd hc) ht (by simp [hn, ← hl, rv.length]) hst fun h' hx => ?_
  have I1 : Inv X pins σ H { s with heap := h' } := I.kept (t' := s.toks) fun b o e => hx b o (Nat.ne_of_lt (Heap.lt_size e)) e
  exact h pins _ σ H xs _ Q I1 (by simpa using rv) hw
def gSub (to ti : TE) (t : TSet) : TG := fun v σ H Q => to σ H fun o H1 => ti σ H1 fun i H2 => t o i v H2 fun H3 => Q σ H3
theorem pg_sub {o i : Expr} {to ti : TE} {t : TSet} (ho : PE X o to) (hi : PE X i ti) (hs : PSet X t)
    (ha : ∀ v, assign (.Subscript o i pos) X.env v = (do
      let ov ← holding [v] (eval o X.env)
      let iv ← holding [v, ov] (eval i X.env)
      standAt pos
      holding [v, ov, iv] (setItem ov iv v)
      release [v, ov, iv] []) := by intro _; rfl) : PG X (.Subscript o i pos) (gSub to ti t) := by
  intro pins s σ H v u Q I r h
  rw [ha]
  refine wpAny_bind (wpAny_holding (thn (ho pins s σ H _ I h) fun ov s1 ⟨x, H1, I1, r1, q1⟩ => ?_))
  refine wpAny_bind (wpAny_holding (thn (hi pins s1 σ H1 _ I1 q1) fun iv s2 ⟨y, H2, I2, r2, q2⟩ => ?_))
  refine wpAny_bind (wpAny_standAt (wpAny_bind (wpAny_holding (thn (hs pins s2 σ H2 x y v ov iv u _ I2 r1 r2 r q2) fun _ s3 ⟨H3, I3, q3⟩ => ?_))))
  exact wpAny_release ⟨σ, H3, I3, q3⟩
def tAsg (te : TE) (g : TG) : TS := fun D σ H => te σ H fun x H1 => g x σ H1 D.nx
theorem ps_asg {tg e : Expr} {te : TE} {g : TG} (he : PE X e te) (hg : PG X tg g) (hs : swapsWithSole [tg] e pos.line X.env = pure false := by rfl) (hw : swappedStores [tg] e X.env = pure none := by rfl)
    (h1 : (assignEach [tg] X.env).map (·.2) = [assign tg X.env] := by rfl) : PS X (.Assign [tg] e pos) (tAsg te g) := by
  intro pins s σ H D I h
  refine wpAny_Assign_stores (thn (he pins s σ H _ I h) fun v s1 ⟨x, H1, I1, r1, q1⟩ => ?_) hs hw
  rw [h1]
  exact thn (hg pins s1 σ H1 x v _ I1 r1 q1) fun _ s2 q => q
theorem ps_set {i : Nat} {x : Str} {e : Expr} {te : TE} {pos' : Pos} (hN : X.N.Nodup) (hi : X.N[i]? = some x) (hx : Loc X.env.scope x) (he : PE X e te) (hs : swapsWith e (some (.Name x pos')) pos.line X.env = pure false := by rfl) (hf : X.fn x = true ∨ X.env.scope.names.lookup x = some .local := by first | exact .inl rfl | exact .inr rfl | assumption) :
    PS X (.Assign [.Name x pos'] e pos) (tAsg te (gName i)) := by
  intro pins s σ H D I h
  refine wpAny_Assign_Name (thn (he pins s σ H _ I h) fun v s1 ⟨y, H1, I1, r1, q1⟩ => ?_) hs
  exact store_ok I1 hN hi hx r1 (fun s2 I2 => ⟨_, H1, I2, q1⟩) hf
end
section
variable {X : Cx} {pos : Pos}
def tWhile (c : TT) (tb : TS) : TS := fun D σ H => ∃ W : Nat → St → Hp → Prop, (∃ m, W m σ H) ∧ ∀ m σ H, W m σ H →
  c σ H fun b H1 => if b = true then ∃ N : St → Hp → Prop, (∀ σ' H', N σ' H' → ∃ m', m' < m ∧ W m' σ' H') ∧ tb { D with nx := N, ct := N, bk := D.nx } σ H1 else D.nx σ H1
theorem ps_while {c : Expr} {body : List Stmt} {tc : TT} {tb : TS} (hp : PassesOwn (model X.prog X.w) X.A X.env X.xe) (hc : PT X c tc) (hb : PSs X body tb) : PS X (.While c body [] pos) (tWhile tc tb) := by
  intro pins s σ H D I h
  obtain ⟨W, ⟨m0, w0⟩, turn⟩ := h
  refine wpAny_While (codeAny_whileLoop (fun n s' => ∃ σ' H', Inv X pins σ' H' s' ∧ W n σ' H') ?_ m0 ⟨σ, H, I, w0⟩)
  rintro n s1 ⟨σ1, H1, I1, w1⟩
  refine wpAny_passesOwn hp (thn (hc pins s1 σ1 H1 _ I1 (turn n σ1 H1 w1)) fun b s2 ⟨H2, I2, q2⟩ => ?_)
  cases b with
  | true =>
    obtain ⟨N, hN, q2⟩ := q2
    rw [if_pos rfl]
    refine wpAny_passesOwn hp (thn (hb pins s2 σ1 H2 _ I2 q2) fun f s3 q3 => ?_)
    cases f with
    | next =>
      obtain ⟨σ3, H3, I3, n3⟩ := q3
      obtain ⟨m', hm, w3⟩ := hN σ3 H3 n3
      exact ⟨m', hm, σ3, H3, I3, w3⟩
    | cont =>
      obtain ⟨σ3, H3, I3, n3⟩ := q3
      obtain ⟨m', hm, w3⟩ := hN σ3 H3 n3
      exact ⟨m', hm, σ3, H3, I3, w3⟩
    | brk => exact q3
    | ret v => exact q3
  | false =>
    rw [if_neg Bool.false_ne_true]
    exact wpAny_execs_nil ⟨σ1, H2, I2, q2⟩
end
structure It where
  go : Nat → Hp → Prop
  yld : Nat → Hp → V → Hp → Prop
  stop : Nat → Hp → Prop
def FpOk (X : Cx) (pins : List (Addr × Obj)) (H : Hp) (b : Addr) : Prop :=
  H b = none ∧ b ≠ X.env.locals ∧ b ∉ X.fs ∧ (b ∈ X.ex ∨ X.s₀.heap.objs.size ≤ b) ∧ (∀ x c, X.env.cells.lookup x = some c → c ≠ b) ∧ ∀ p ∈ X.pn ++ pins, p.1 ≠ b
theorem Inv.fpOk {X : Cx} {pins : List (Addr × Obj)} {σ : St} {H H' : Hp} {s : Shared} {b : Addr} (I : Inv X pins σ H s) (hb : s.heap.objs.size ≤ b) (hn : H' b = none) : FpOk X pins H' b := by
  refine ⟨hn, Nat.ne_of_gt (Nat.lt_of_lt_of_le I.lt hb), I.nofs hb, .inr (Nat.le_trans I.sz hb), fun x c e z => ?_, fun p hp z => ?_⟩
  · obtain ⟨v, q⟩ := I.cell x c e
    exact absurd (Nat.lt_of_lt_of_le q.lt (by rw [z]; exact hb)) (Nat.lt_irrefl _)
  · exact absurd (Nat.lt_of_lt_of_le (Heap.lt_size (I.pin p hp).1) (by rw [z]; exact hb)) (Nat.lt_irrefl _)
structure Turn (P : Program) (w : World) (K : PySem.W.Frag) (tg : Expr) (J : It) (fp : List Addr) (it : Addr) (tn : Nat → Heap → Prop) : Prop where
  mem : it ∈ fp
  obj : ∀ i h, tn i h → ∀ b ∈ fp, ∃ o, h.get? b = some o ∧ ∀ v, o.data ≠ .cell v
  keep : ∀ i h h', tn i h → (∀ b ∈ fp, ∀ o, h.get? b = some o → h'.get? b = some o) → tn i h'
  item : ∀ (X : Cx), X.prog = P → X.w = w → X.K = K → X.calm = true → ∀ (i : Nat) (pins : List (Addr × Obj)) (s : Shared) (σ : St) (H : Hp) (E : Value → Shared → Prop), Inv X pins σ H s → (∀ b ∈ fp, FpOk X pins H b) → tn i s.heap → J.go i H →
    wpAny (model P w) X.A (pyNext (.ref it)) (fun r s1 => ∃ u, r = some u ∧
      wpAny (model P w) X.A (letOwnedTupleGo tg (.ref it) u) (fun _ s2 => ∃ x H', Inv X pins σ H' s2 ∧ RelV x u ∧ J.yld i H x H' ∧ tn (i + 1) s2.heap ∧ ∀ b ∈ fp, H' b = none) E s1) E s
  done : ∀ (X : Cx), X.prog = P → X.w = w → X.K = K → X.calm = true → ∀ (i : Nat) (pins : List (Addr × Obj)) (s : Shared) (σ : St) (H : Hp) (E : Value → Shared → Prop), Inv X pins σ H s → (∀ b ∈ fp, FpOk X pins H b) → tn i s.heap → J.stop i H →
    wpAny (model P w) X.A (pyNext (.ref it)) (fun r s1 => r = none ∧ Inv X pins σ H s1) E s
  self : ∀ (A : Around) (i : Nat) (s : Shared) (Q : Value → Shared → Prop) (E : Value → Shared → Prop), tn i s.heap → Q (.ref it) s → wpAny (model P w) A (pyIter (.ref it)) Q E s
abbrev TI := St → Hp → (It → Hp → Prop) → Prop
def PIE (X : Cx) (pins : List (Addr × Obj)) (σ : St) (tg : Expr) (R : It → Hp → Prop) (itv : Value) (s2 : Shared) : Prop :=
  ∃ (it : Addr) (fp : List Addr) (tn : Nat → Heap → Prop) (J : It) (H' : Hp), itv = .ref it ∧ Inv X pins σ H' s2 ∧ Turn X.prog X.w X.K tg J fp it tn ∧ tn 0 s2.heap ∧ (∀ b ∈ fp, FpOk X pins H' b) ∧ R J H'
def PI (X : Cx) (tg iter : Expr) (wi : TI) : Prop :=
  ∀ (pins : List (Addr × Obj)) (s : Shared) (σ : St) (H : Hp) (R : It → Hp → Prop), Inv X pins σ H s → wi σ H R →
    wpAny (model X.prog X.w) X.A (eval iter X.env) (fun v s1 => wpAny (model X.prog X.w) X.A (pyIter v) (PIE X pins σ tg R) X.xe s1) X.xe s
theorem go_of {M : Model} {A : Around} {E : Value → Shared → Prop} {s : Shared} {tg : Expr} {it : Addr} {u : Value} {o : Obj} {n : String} {vs : Array Value} {Q : Unit → Shared → Prop} (ho : s.heap.get? it = some o) (hc : o.cls = .type n) (hd : o.data = .fields vs)
    (hn : ["enumerate", "zip", "dict_itemiterator", "dict_reverseitemiterator", "odict_iterator", "itertools.zip_longest", "itertools.pairwise"].contains n = false) (hQ : Q () s) : wpAny M A (letOwnedTupleGo tg (.ref it) u) Q E s := by
  unfold letOwnedTupleGo
  cases tg <;> first
    | exact wpAny_pure hQ
    | (cases u <;> first
        | exact wpAny_pure hQ
        | (refine wpAny_bind (wpAny_load ho ?_)
           rw [hc, hd]
           show wpAny M A (if (["enumerate", "zip", "dict_itemiterator", "dict_reverseitemiterator", "odict_iterator", "itertools.zip_longest", "itertools.pairwise"].contains n && vs[0]? == some (rawInt _)) = true then _ else _) Q E s
           rw [if_neg (by intro h; rw [hn, Bool.false_and] at h; cases h)]
           exact wpAny_pure hQ))
def Itl (K : PySem.W.Frag) (a : Addr) : It :=
  ⟨fun i H => ∃ xs x, SqL K H a xs ∧ xs[i]? = some x, fun i H x H' => H' = H ∧ ∀ xs, SqL K H a xs → xs[i]? = some x, fun i H => ∃ xs, SqL K H a xs ∧ xs.length ≤ i⟩
def Itt (K : PySem.W.Frag) (a : Addr) : It :=
  ⟨fun i H => ∃ xs x, SqT K H a xs ∧ xs[i]? = some x, fun i H x H' => H' = H ∧ ∀ xs, SqT K H a xs → xs[i]? = some x, fun i H => ∃ xs, SqT K H a xs ∧ xs.length ≤ i⟩
def Itr (lo : Int) (n : Nat) : It := ⟨fun i _ => i < n, fun i H x H' => H' = H ∧ x = .int (lo + i), fun i _ => n ≤ i⟩
theorem turn_list {P : Program} {w : World} {K : PySem.W.Frag} {tg : Expr} (a it : Addr) : Turn P w K tg (Itl K a) [it] it (fun i h => h.IsListIter it a i) where
  mem := by simp
  obj := fun i h st b hb => by
    have e : b = it := by simpa using hb
    subst e
    obtain ⟨o, e, c, d⟩ := st
    exact ⟨o, e, fun v z => by rw [d] at z; cases z⟩
  keep := fun i h h' st k => st.at fun o e => k it (by simp) o e
  item := by
    intro X hP hw hK hc i pins s σ H E I hf st hg
    subst hP hw hK
    obtain ⟨xs, x, hq, hx⟩ := hg
    obtain ⟨its, rv, p, hz⟩ := I.list hq
    obtain ⟨u, hu, ru⟩ := rv.get hx
    obtain ⟨f0, f1, f2, f3, f4, f5⟩ := hf it (by simp)
    refine wpAny_pyNext_list_item st p.isList (x := u) (by simpa using hu) fun h' st' sb => ?_
    have I1 : Inv X pins σ H { s with heap := h' } := I.turned (t' := s.toks) (fun b o hb e => (sb.2 b hb).trans e) f0 f1 f3 f4 f5
    obtain ⟨o, e, c, d⟩ := id st'
    exact ⟨u, rfl, go_of (s := { s with heap := h' }) e c d (by decide) ⟨x, H, I1, ru, ⟨rfl, fun ys hy => by rw [I.list_inj hy hq]; exact hx⟩, st', fun b hb => (hf b hb).1⟩⟩
  done := by
    intro X hP hw hK hc i pins s σ H E I hf st hg
    subst hP hw hK
    obtain ⟨xs, hq, hx⟩ := hg
    obtain ⟨its, rv, p, hz⟩ := I.list hq
    obtain ⟨f0, f1, f2, f3, f4, f5⟩ := hf it (by simp)
    have hl := rv.length
    exact wpAny_pyNext_list_end (I.ok.hd hc) st p.isList (by simp; omega) fun h' eb => ⟨rfl, I.turned (t' := s.toks) (fun b o hb e => eb b o hb e) f0 f1 f3 f4 f5⟩
  self := fun _ _ _ _ _ st h => wpAny_pyIter_listiter st h
theorem turn_tuple {P : Program} {w : World} {K : PySem.W.Frag} {tg : Expr} (a it : Addr) : Turn P w K tg (Itt K a) [it] it (fun i h => h.IsTupleIter it a i) where
  mem := by simp
  obj := fun i h st b hb => by
    have e : b = it := by simpa using hb
    subst e
    obtain ⟨o, e, c, d⟩ := st
    exact ⟨o, e, fun v z => by rw [d] at z; cases z⟩
  keep := fun i h h' st k => st.at fun o e => k it (by simp) o e
  item := by
    intro X hP hw hK hc i pins s σ H E I hf st hg
    subst hP hw hK
    obtain ⟨xs, x, hq, hx⟩ := hg
    obtain ⟨its, rv, p, hz⟩ := I.tuple hq
    obtain ⟨u, hu, ru⟩ := rv.get hx
    obtain ⟨f0, f1, f2, f3, f4, f5⟩ := hf it (by simp)
    refine wpAny_pyNext_tuple_item st (show s.heap.IsTuple a its.toArray from p) (x := u) (by simpa using hu) fun h' st' sb => ?_
    have I1 : Inv X pins σ H { s with heap := h' } := I.turned (t' := s.toks) (fun b o hb e => (sb.2 b hb).trans e) f0 f1 f3 f4 f5
    obtain ⟨o, e, c, d⟩ := id st'
    exact ⟨u, rfl, go_of (s := { s with heap := h' }) e c d (by decide) ⟨x, H, I1, ru, ⟨rfl, fun ys hy => by rw [I.tuple_inj hy hq]; exact hx⟩, st', fun b hb => (hf b hb).1⟩⟩
  done := by
    intro X hP hw hK hc i pins s σ H E I hf st hg
    subst hP hw hK
    obtain ⟨xs, hq, hx⟩ := hg
    obtain ⟨its, rv, p, hz⟩ := I.tuple hq
    obtain ⟨f0, f1, f2, f3, f4, f5⟩ := hf it (by simp)
    have hl := rv.length
    exact wpAny_pyNext_tuple_end (I.ok.hd hc) st (show s.heap.IsTuple a its.toArray from p) (by simp; omega) fun h' eb => ⟨rfl, I.turned (t' := s.toks) (fun b o hb e => eb b o hb e) f0 f1 f3 f4 f5⟩
  self := fun _ _ _ _ _ st h => wpAny_pyIter_tupleiter st h
theorem turn_range {P : Program} {w : World} {K : PySem.W.Frag} {tg : Expr} (it : Addr) (lo : Int) (n : Nat) : Turn P w K tg (Itr lo n) [it] it (fun i h => IsRangeIter h it (lo + (i : Nat) * 1) ((n : Int) - (i : Nat)) 1) where
  mem := by simp
  obj := fun i h st b hb => by
    have e : b = it := by simpa using hb
    subst e
    exact ⟨_, st, fun v z => by
      have z' : Data.fields _ = Data.cell v := z
      cases z'⟩
  keep := fun i h h' st k => k it (by simp) _ st
  item := by
    intro X hP hw hK hc i pins s σ H E I hf st hg
    subst hP hw hK
    obtain ⟨f0, f1, f2, f3, f4, f5⟩ := hf it (by simp)
    have W := Walks.range (prog := X.prog) (w := X.w) (I.ok.hd hc) it lo 1 n
    refine W.item i s _ _ hg st fun v h' tk hv st' kk => ?_
    obtain ⟨t, rfl⟩ := hv
    have I1 : Inv X pins σ H { s with heap := h', toks := tk } := I.turned (fun b o hb e => kk b o (by simpa using hb) e) f0 f1 f3 f4 f5
    refine ⟨_, rfl, go_of (s := { s with heap := h', toks := tk }) (n := "range_iterator") st' rfl rfl (by decide) ⟨.int (lo + i), H, I1, ⟨t, ?_⟩, ⟨rfl, rfl⟩, st', fun b hb => (hf b hb).1⟩⟩
    rw [Int.mul_one]
  done := by
    intro X hP hw hK hc i pins s σ H E I hf st hg
    subst hP hw hK
    obtain ⟨f0, f1, f2, f3, f4, f5⟩ := hf it (by simp)
    exact wpAny_pyNext_range_end (I.ok.hd hc) st (by have : n ≤ i := hg; omega) fun h' eb => ⟨rfl, I.turned (t' := s.toks) (fun b o hb e => eb b o hb e) f0 f1 f3 f4 f5⟩
  self := fun _ _ _ _ _ st h => wpAny_pyIter_rangeiter st h
end L2
namespace L2
open PySem PySem.Spec PyProof.Rows
section
variable {X : Cx} {tg : Expr}
def iList (K : PySem.W.Frag) (tl : TE) : TI := fun σ H R => tl σ H fun x H1 => ∃ a, x = .ref a ∧ (∃ xs, SqL K H1 a xs) ∧ R (Itl K a) H1
def iTup (K : PySem.W.Frag) (tl : TE) : TI := fun σ H R => tl σ H fun x H1 => ∃ a, x = .ref a ∧ (∃ xs, SqT K H1 a xs) ∧ R (Itt K a) H1
theorem pi_list {l : Expr} {tl : TE} (hl : PE X l tl) : PI X tg l (iList X.K tl) := by
  intro pins s σ H R I h
  refine thn (hl pins s σ H _ I h) fun v s1 ⟨x, H1, I1, r1, q1⟩ => ?_
  obtain ⟨a, e, ⟨xs, hq⟩, q⟩ := q1
  subst e
  cases r1
  obtain ⟨its, rv, p, hz⟩ := I1.list hq
  refine wpAny_pyIter_list p.isList ?_
  refine ⟨s1.heap.objs.size, [s1.heap.objs.size], _, _, H1, rfl, I1.kept (t' := s1.toks) fun b o e => Heap.get?_push_of_some _ e, turn_list a _, ⟨_, Heap.get?_push_size _ rfl, rfl, rfl⟩, fun b hb => ?_, q⟩
  have e : b = s1.heap.objs.size := by simpa using hb
  subst e
  exact I1.fpOk (Nat.le_refl _) (I1.hok.fresh (Nat.le_refl _))
theorem pi_tup {l : Expr} {tl : TE} (hl : PE X l tl) : PI X tg l (iTup X.K tl) := by
  intro pins s σ H R I h
  refine thn (hl pins s σ H _ I h) fun v s1 ⟨x, H1, I1, r1, q1⟩ => ?_
  obtain ⟨a, e, ⟨xs, hq⟩, q⟩ := q1
  subst e
  cases r1
  obtain ⟨its, rv, p, hz⟩ := I1.tuple hq
  refine wpAny_pyIter_tuple (show s1.heap.IsTuple a its.toArray from p) ?_
  refine ⟨s1.heap.objs.size, [s1.heap.objs.size], _, _, H1, rfl, I1.kept (t' := s1.toks) fun b o e => Heap.get?_push_of_some _ e, turn_tuple a _, ⟨_, Heap.get?_push_size _ rfl, rfl, rfl⟩, fun b hb => ?_, q⟩
  have e : b = s1.heap.objs.size := by simpa using hb
  subst e
  exact I1.fpOk (Nat.le_refl _) (I1.hok.fresh (Nat.le_refl _))
theorem range_it {pins : List (Addr × Obj)} {σ : St} {H : Hp} {s : Shared} {R : It → Hp → Prop} {E : Value → Shared → Prop} {lo hi : Int} {t u v : Tok} {tk : Nat} (I : Inv X pins σ H s) (h1 : -(2 ^ 62) ≤ lo) (h2 : lo < 2 ^ 62) (h3 : -(2 ^ 62) ≤ hi) (h4 : hi < 2 ^ 62)
    (q : R (Itr lo (hi - lo).toNat) H) : wpAny (model X.prog X.w) X.A (pyIter (.ref s.heap.objs.size)) (PIE X pins σ tg R) E { s with heap := s.heap.push { cls := .type "range", data := .fields #[.int lo t, .int hi u, .int 1 v] }, toks := tk } := by
  refine wpAny_pyIter_range (IsRange.new ..) (small_one h1 h2 h3 h4) ?_
  have I1 : Inv X pins σ H { s with heap := s.heap.push { cls := .type "range", data := .fields #[.int lo t, .int hi u, .int 1 v] }, toks := tk } := I.kept fun b o e => Heap.get?_push_of_some _ e
  refine ⟨(s.heap.push { cls := .type "range", data := .fields #[.int lo t, .int hi u, .int 1 v] }).objs.size, [(s.heap.push { cls := .type "range", data := .fields #[.int lo t, .int hi u, .int 1 v] }).objs.size], _, _, H, rfl,
    I1.kept (t' := tk) fun b o e => Heap.get?_push_of_some _ e, turn_range _ lo (hi - lo).toNat, ?_, fun b hb => ?_, q⟩
  · have e1 : lo + ((0 : Nat) : Int) * 1 = lo := by simp
    have e2 : (((hi - lo).toNat : Nat) : Int) - ((0 : Nat) : Int) = Builtin.Range.rangeSize lo hi 1 := by rw [rangeSize_one]; split <;> omega
    show IsRangeIter _ _ (lo + ((0 : Nat) : Int) * 1) ((((hi - lo).toNat : Nat) : Int) - ((0 : Nat) : Int)) 1
    rw [e1, e2]
    exact Heap.get?_push_size _ rfl
  · have e : b = (s.heap.push { cls := .type "range", data := .fields #[.int lo t, .int hi u, .int 1 v] }).objs.size := by simpa using hb
    subst e
    exact I1.fpOk (Nat.le_refl _) (I1.hok.fresh (Nat.le_refl _))
def iRng1 (ta : TA) : TI := fun σ H R => ta σ H fun vs H1 => ∃ j : Int, vs = [.int j] ∧ -(2 ^ 62) ≤ j ∧ j < 2 ^ 62 ∧ R (Itr 0 j.toNat) H1
def iRng2 (ta : TA) : TI := fun σ H R => ta σ H fun vs H1 => ∃ i j : Int, vs = [.int i, .int j] ∧ (-(2 ^ 62) ≤ i ∧ i < 2 ^ 62 ∧ -(2 ^ 62) ≤ j ∧ j < 2 ^ 62) ∧ R (Itr i (j - i).toNat) H1
theorem pi_range1 {a : Expr} {ta : TA} {p pos : Pos} (hg : Gl X "range") (hm : X.mg "range" = none) (ha : PA X [a] ta) (hs : starEach [a] X.env = [(false, eval a X.env)] := by rfl) : PI X tg (.Call (.Name "range" p) [a] [] pos) (iRng1 ta) := by
  intro pins s σ H R I h
  refine Call_ (ld_blt I hg hm boot_range (PyProof.Rows.callWith_type1 (thn (ha pos pins s σ H _ I h) fun us s1 ⟨vs, H1, I1, r1, q1⟩ => ?_) hs rfl))
  obtain ⟨j, e, q1, q2, q⟩ := q1
  subst e
  cases r1 with
  | cons r rr =>
    cases rr
    obtain ⟨t, rfl⟩ := r
    exact call_range_1 (range_it I1 (by omega) (by omega) q1 q2 (by simpa using q))
theorem pi_range2 {a b : Expr} {ta : TA} {p pos : Pos} (hg : Gl X "range") (hm : X.mg "range" = none) (ha : PA X [a, b] ta) (hs : starEach [a, b] X.env = [(false, eval a X.env), (false, eval b X.env)] := by rfl) (hs2 : starEach [b] X.env = [(false, eval b X.env)] := by rfl) :
    PI X tg (.Call (.Name "range" p) [a, b] [] pos) (iRng2 ta) := by
  intro pins s σ H R I h
  refine Call_ (ld_blt I hg hm boot_range (PyProof.Rows.callWith_type1 (thn (ha pos pins s σ H _ I h) fun us s1 ⟨vs, H1, I1, r1, q1⟩ => ?_) (by rw [hs, hs2]) (by rw [hs2]; rfl)))
  obtain ⟨i, j, e, ⟨q1, q2, q3, q4⟩, q⟩ := q1
  subst e
  cases r1 with
  | cons r rr =>
    cases rr with
    | cons r' rr =>
      cases rr
      obtain ⟨t, rfl⟩ := r
      obtain ⟨t', rfl⟩ := r'
      exact call_range_2 (range_it I1 q1 q2 q3 q4 q)
def tFor (wi : TI) (g : TG) (tb : TS) : TS := fun D σ H => wi σ H fun J H1 => ∃ W : Nat → Nat → St → Hp → Prop, (∃ m, W 0 m σ H1) ∧ ∀ i m σ H, W i m σ H →
  (J.stop i H ∧ D.nx σ H) ∨ (J.go i H ∧ ∃ N : St → Hp → Prop, (∀ σ' H', N σ' H' → ∃ m', m' < m ∧ W (i + 1) m' σ' H') ∧ ∀ x H', J.yld i H x H' → g x σ H' fun σ2 H2 => tb { D with nx := N, ct := N, bk := D.nx } σ2 H2)
def pinsAt (fp : List Addr) (h : Heap) : List (Addr × Obj) := fp.filterMap fun b => (h.get? b).map fun o => (b, o)
theorem mem_pinsAt {fp : List Addr} {h : Heap} {b : Addr} {o : Obj} (hb : b ∈ fp) (e : h.get? b = some o) : (b, o) ∈ pinsAt fp h := List.mem_filterMap.mpr ⟨b, hb, by rw [e]; rfl⟩
theorem of_pinsAt {fp : List Addr} {h : Heap} {p : Addr × Obj} (hp : p ∈ pinsAt fp h) : p.1 ∈ fp ∧ h.get? p.1 = some p.2 := by
  obtain ⟨b, hb, e⟩ := List.mem_filterMap.mp hp
  cases q : h.get? b with
  | none => rw [q] at e; cases e
  | some o =>
    rw [q] at e
    have e' : (b, o) = p := Option.some.inj e
    subst e'
    exact ⟨hb, q⟩
theorem Inv.pinned {pins : List (Addr × Obj)} {σ : St} {H : Hp} {s : Shared} {fp : List Addr} (I : Inv X pins σ H s) (hf : ∀ b ∈ fp, FpOk X pins H b) (ho : ∀ b ∈ fp, ∃ o, s.heap.get? b = some o ∧ ∀ v, o.data ≠ .cell v) : Inv X (pins ++ pinsAt fp s.heap) σ H s :=
  I.pins_of fun p hp => (List.mem_append.mp hp).elim (fun z => I.pin p (List.mem_append_right _ z)) fun z => by
    obtain ⟨hb, e⟩ := of_pinsAt z
    obtain ⟨f0, f1, f2, _⟩ := hf p.1 hb
    obtain ⟨o, e', d⟩ := ho p.1 hb
    rw [e] at e'; cases e'
    exact ⟨e, f0, f1, f2, d⟩
theorem Inv.unpinned {pins pl : List (Addr × Obj)} {σ : St} {H : Hp} {s : Shared} (I : Inv X (pins ++ pl) σ H s) : Inv X pins σ H s := I.pins_of fun p hp => I.pin p (List.mem_append_right _ (List.mem_append_left _ hp))
theorem ps_for {iter : Expr} {body : List Stmt} {wi : TI} {g : TG} {tb : TS} {pos : Pos} (hp : PassesOwn (model X.prog X.w) X.A X.env X.xe) (hc : X.calm = true) (hi : PI X tg iter wi) (hg : PG X tg g) (hb : PSs X body tb)
    (hs : ∀ x, foldedSetIterable iter X.env x = pure x := by intro _; rfl) : PS X (.For tg iter body [] pos) (tFor wi g tb) := by
  intro pins s σ H D I h
  refine wpAny_For (thn (hi pins s σ H _ I h) fun v s1 h1 => thn h1 fun itv s2 h2 => ?_) hs
  obtain ⟨it, fp, tn, J, H2, e, I2, T, st2, f2, W, ⟨m0, w0⟩, turn⟩ := h2
  subst e
  -- what stays true of the iterator's objects through the loop
  have stat : ∀ {H' : Hp}, (∀ b ∈ fp, H' b = none) → ∀ b ∈ fp, FpOk X pins H' b := fun hn b hb => ⟨hn b hb, (f2 b hb).2⟩
  refine codeAny_forLoop_any (fun n s' => ∃ i σ' H', Inv X pins σ' H' s' ∧ tn i s'.heap ∧ (∀ b ∈ fp, H' b = none) ∧ W i n σ' H') ?_ m0 ⟨0, σ, H2, I2, st2, fun b hb => (f2 b hb).1, w0⟩
  rintro n s3 ⟨i, σ3, H3, I3, st3, fr3, w3⟩
  rcases turn i n σ3 H3 w3 with ⟨stop, qn⟩ | ⟨go, N, hN, step⟩
  · refine wpAny_passesOwn hp (thn (T.done X rfl rfl rfl hc i pins s3 σ3 H3 X.xe I3 (stat fr3) st3 stop) fun r s4 ⟨hr, I4⟩ => ?_)
    subst hr
    exact wpAny_execs_nil ⟨σ3, H3, I4, qn⟩
  · refine wpAny_passesOwn hp (thn (T.item X rfl rfl rfl hc i pins s3 σ3 H3 X.xe I3 (stat fr3) st3 go) fun r s4 ⟨u, hr, h4⟩ => ?_)
    subst hr
    refine wpAny_passesOwn hp (thn h4 fun _ s5 ⟨x, H5, I5, r5, y5, st5, fr5⟩ => ?_)
    have I5' := I5.pinned (stat fr5) (T.obj _ _ st5)
    refine wpAny_passesOwn hp (thn (hg _ s5 σ3 H5 x u _ I5' r5 (step x H5 y5)) fun _ s6 ⟨σ6, H6, I6, q6⟩ => ?_)
    refine wpAny_passesOwn hp (thn (hb _ s6 σ6 H6 _ I6 q6) fun f s7 q7 => ?_)
    have again : ∀ {σ7 : St} {H7 : Hp}, Inv X (pins ++ pinsAt fp s5.heap) σ7 H7 s7 → N σ7 H7 → ∃ m, m < n ∧ ∃ i σ' H', Inv X pins σ' H' s7 ∧ tn i s7.heap ∧ (∀ b ∈ fp, H' b = none) ∧ W i m σ' H' := fun {σ7 H7} I7 n7 => by
      obtain ⟨m', hm, w7⟩ := hN σ7 H7 n7
      refine ⟨m', hm, i + 1, σ7, H7, I7.unpinned, T.keep _ _ _ st5 fun b hb o e => (I7.pin (b, o) (List.mem_append_right _ (List.mem_append_right _ (mem_pinsAt hb e)))).1, fun b hb => ?_, w7⟩
      obtain ⟨o, e, d⟩ := T.obj _ _ st5 b hb
      exact (I7.pin (b, o) (List.mem_append_right _ (List.mem_append_right _ (mem_pinsAt hb e)))).2.1
    cases f with
    | next => obtain ⟨σ7, H7, I7, n7⟩ := q7; exact again I7 n7
    | cont => obtain ⟨σ7, H7, I7, n7⟩ := q7; exact again I7 n7
    | brk => obtain ⟨σ7, H7, I7, q7⟩ := q7; exact ⟨σ7, H7, I7.unpinned, q7⟩
    | ret v => obtain ⟨x7, σ7, H7, I7, r7, q7⟩ := q7; exact ⟨x7, σ7, H7, I7.unpinned, r7, q7⟩
end
end L2
namespace L2
open PySem PySem.Spec PyProof.Rows
abbrev R2 := V → V → Hp → VK → Prop
def OpR (X : Cx) (f : Value → Value → Sem Value) (r : R2) : Prop :=
  ∀ (pins : List (Addr × Obj)) (s : Shared) (σ : St) (H : Hp) (x y : V) (v u : Value) (Q : VK), Inv X pins σ H s → RelV x v → RelV y u → r x y H Q →
    wpAny (model X.prog X.w) X.A (f v u) (EP X pins σ Q) X.xe s
def CallR (X : Cx) (f : Value) (r : List V → Hp → VK → Prop) : Prop :=
  ∀ (pins : List (Addr × Obj)) (s : Shared) (σ : St) (H : Hp) (xs : List V) (us : List Value) (Q : VK), Inv X pins σ H s → Vals xs us → r xs H Q →
    wpAny (model X.prog X.w) X.A (call f us) (EP X pins σ Q) X.xe s
def tOp (r : R2) (ta tb : TE) : TE := fun σ H Q => ta σ H fun x H1 => tb σ H1 fun y H2 => r x y H2 Q
def rI (C : Int → Int → Prop) (g : Int → Int → V) : R2 := fun x y H Q => ∃ i j, x = .int i ∧ y = .int j ∧ C i j ∧ Q (g i j) H
def rI0 (g : Int → Int → V) : R2 := fun x y H Q => ∃ i j, x = .int i ∧ y = .int j ∧ Q (g i j) H
section
variable {X : Cx} {a b c : Expr} {ta tb tc : TE} {pos : Pos}
theorem binT (ha : PE X a ta) (hb : PE X b tb) {pins : List (Addr × Obj)} {s : Shared} {σ : St} {H : Hp} {R : V → V → Hp → Prop} (I : Inv X pins σ H s)
    (h : ta σ H fun x H1 => tb σ H1 fun y H2 => R x y H2) {Q : Value → Shared → Prop} {f : Value → Value → Sem Value}
    (hf : ∀ v u s2 x y H2, Inv X pins σ H2 s2 → RelV x v → RelV y u → R x y H2 → wpAny (model X.prog X.w) X.A (f v u) Q X.xe s2) :
    wpAny (model X.prog X.w) X.A (eval a X.env) (fun v s₁ => wpAny (model X.prog X.w) X.A (eval b X.env) (fun u s₂ => wpAny (model X.prog X.w) X.A (f v u) Q X.xe s₂) X.xe s₁) X.xe s := by
  refine thn (ha pins s σ H _ I h) fun v s1 ⟨x, H1, I1, r1, q1⟩ => ?_
  refine thn (hb pins s1 σ H1 _ I1 q1) fun u s2 ⟨y, H2, I2, r2, q2⟩ => ?_
  exact hf v u s2 x y H2 I2 r1 r2 q2
theorem pe_op {op : Operator} {r : R2} (ho : OpR X (binaryOp op) r) (ha : PE X a ta) (hb : PE X b tb) : PE X (.BinOp a op b pos) (tOp r ta tb) := by
  intro pins s σ H Q I h
  exact wpAny_BinOp (binT ha hb I h fun v u s2 x y H2 I2 rx ry q => ho pins s2 σ H2 x y v u Q I2 rx ry q)
theorem opI {f : Value → Value → Sem Value} {C : Int → Int → Prop} {g : Int → Int → Int}
    (rule : ∀ (i j : Int) (t u : Tok) (s : Shared) (Q : Value → Shared → Prop) (E : Value → Shared → Prop), C i j → Q (.int (g i j) s.toks) { s with toks := s.toks + 1 } → wpAny (model X.prog X.w) X.A (f (.int i t) (.int j u)) Q E s) :
    OpR X f (rI C fun i j => .int (g i j)) := by
  intro pins s σ H x y v u Q I rx ry h
  obtain ⟨i, j, rfl, rfl, hc, q⟩ := h
  obtain ⟨t, rfl⟩ := rx
  obtain ⟨t', rfl⟩ := ry
  exact rule i j t t' s _ _ hc ⟨.int (g i j), H, I.tok _, ⟨_, rfl⟩, q⟩
theorem opI0 {f : Value → Value → Sem Value} {g : Int → Int → Int}
    (rule : ∀ (i j : Int) (t u : Tok) (s : Shared) (Q : Value → Shared → Prop) (E : Value → Shared → Prop), Q (.int (g i j) s.toks) { s with toks := s.toks + 1 } → wpAny (model X.prog X.w) X.A (f (.int i t) (.int j u)) Q E s) :
    OpR X f (rI0 fun i j => .int (g i j)) := by
  intro pins s σ H x y v u Q I rx ry h
  obtain ⟨i, j, rfl, rfl, q⟩ := h
  obtain ⟨t, rfl⟩ := rx
  obtain ⟨t', rfl⟩ := ry
  exact rule i j t t' s _ _ ⟨.int (g i j), H, I.tok _, ⟨_, rfl⟩, q⟩
theorem opB0 {f : Value → Value → Sem Value} {g : Int → Int → Bool}
    (rule : ∀ (i j : Int) (t u : Tok) (s : Shared) (Q : Value → Shared → Prop) (E : Value → Shared → Prop), Q (.bool (g i j)) s → wpAny (model X.prog X.w) X.A (f (.int i t) (.int j u)) Q E s) :
    OpR X f (rI0 fun i j => .bl (g i j)) := by
  intro pins s σ H x y v u Q I rx ry h
  obtain ⟨i, j, rfl, rfl, q⟩ := h
  obtain ⟨t, rfl⟩ := rx
  obtain ⟨t', rfl⟩ := ry
  exact rule i j t t' s _ _ ⟨.bl (g i j), H, I, rfl, q⟩
theorem op_add : OpR X (binaryOp .Add) (rI0 fun i j => .int (i + j)) := opI0 fun _ _ _ _ _ _ _ q => add_int q
theorem op_sub : OpR X (binaryOp .Sub) (rI0 fun i j => .int (i - j)) := opI0 fun _ _ _ _ _ _ _ q => sub_int q
theorem op_mod : OpR X (binaryOp .Mod) (rI (fun _ j => 0 < j) fun i j => .int (i % j)) := opI fun i j _ _ _ _ _ hc q => by
  have h1 : (0 : Int) < j := hc
  exact mod_int' (by omega) (by rw [Int.fmod_eq_emod_of_nonneg i (by omega)]; exact q)
end
def scal : V → V → Bool
  | .non, .non => true | .non, .int _ => true | .int _, .non => true | .non, .bl _ => true | .bl _, .non => true | .non, .str _ => true | .str _, .non => true
  | .int _, .int _ => true | .bl _, .bl _ => true | .str _, .str _ => true | .byt _, .byt _ => true
  | .int _, .str _ => true | .str _, .int _ => true | .bl _, .str _ => true | .str _, .bl _ => true
  | _, _ => false
def rEq : R2 := fun x y H Q => scal x y = true ∧ Q (.bl (decide (x = y))) H
def rNe : R2 := fun x y H Q => scal x y = true ∧ Q (.bl (!decide (x = y))) H
theorem dec_int {i j : Int} : decide (V.int i = V.int j) = (i == j) := by
  rw [Bool.eq_iff_iff]
  simp
theorem dec_bl {i j : Bool} : decide (V.bl i = V.bl j) = (i == j) := by
  rw [Bool.eq_iff_iff]
  simp
theorem dec_str {i j : Str} : decide (V.str i = V.str j) = (i == j) := by
  rw [Bool.eq_iff_iff]
  simp
theorem dec_byt {i j : Array UInt8} : decide (V.byt i = V.byt j) = (i.toList == j.toList) := by
  rw [Bool.eq_iff_iff]
  cases i
  cases j
  simp
section
variable {X : Cx} {a b c : Expr} {ta tb tc : TE} {pos : Pos}
theorem fin_bl {pins : List (Addr × Obj)} {σ : St} {H : Hp} {s : Shared} {Q : VK} {k k' : Bool} (I : Inv X pins σ H s) (q : Q (.bl k) H) (e : k = k') : EP X pins σ Q (.bool k') s := by
  subst e
  exact ⟨.bl k, H, I, rfl, q⟩
theorem op_eq : OpR X (compareOp .Eq) rEq := by
  intro pins s σ H x y v u Q I rx ry h
  obtain ⟨hs, q⟩ := h
  cases x with
  | non =>
    cases rx
    cases y with
    | non => cases ry; exact PySem.EqNone.eq_none_none (fin_bl I q (by simp))
    | bl j => cases ry; exact PySem.EqNone.eq_none_bool (fin_bl I q (by simp))
    | int j => obtain ⟨t', rfl⟩ := ry; exact PySem.EqNone.eq_none_int (fin_bl I q (by simp))
    | str j => obtain ⟨t', rfl⟩ := ry; exact PySem.EqNone.eq_none_str (fin_bl I q (by simp))
    | _ => exact absurd (show false = true from hs) Bool.false_ne_true
  | bl i =>
    cases rx
    cases y with
    | non => cases ry; exact PySem.EqNone.eq_bool_none (fin_bl I q (by simp))
    | bl j => cases ry; exact eq_bool (fin_bl I q dec_bl)
    | str j => obtain ⟨t', rfl⟩ := ry; exact PySem.EqMixed.eq_bool_str (fin_bl I q (by simp))
    | _ => exact absurd (show false = true from hs) Bool.false_ne_true
  | int i =>
    obtain ⟨t, rfl⟩ := rx
    cases y with
    | non => cases ry; exact PySem.EqNone.eq_int_none (fin_bl I q (by simp))
    | int j => obtain ⟨t', rfl⟩ := ry; exact eq_int (fin_bl I q dec_int)
    | str j => obtain ⟨t', rfl⟩ := ry; exact PySem.EqMixed.eq_int_str (fin_bl I q (by simp))
    | _ => exact absurd (show false = true from hs) Bool.false_ne_true
  | str i =>
    obtain ⟨t, rfl⟩ := rx
    cases y with
    | non => cases ry; exact PySem.EqNone.eq_str_none (fin_bl I q (by simp))
    | bl j => cases ry; exact PySem.EqMixed.eq_str_bool (fin_bl I q (by simp))
    | int j => obtain ⟨t', rfl⟩ := ry; exact PySem.EqMixed.eq_str_int (fin_bl I q (by simp))
    | str j => obtain ⟨t', rfl⟩ := ry; exact eq_str (fin_bl I q dec_str)
    | _ => exact absurd (show false = true from hs) Bool.false_ne_true
  | byt i =>
    obtain ⟨t, rfl⟩ := rx
    cases y with
    | byt j => obtain ⟨t', rfl⟩ := ry; exact PySem.W.eq_bytes (fin_bl I q dec_byt)
    | _ => exact absurd (show false = true from hs) Bool.false_ne_true
  | _ => cases y <;> exact absurd (show false = true from hs) Bool.false_ne_true
theorem op_ne : OpR X (compareOp .NotEq) rNe := by
  intro pins s σ H x y v u Q I rx ry h
  obtain ⟨hs, q⟩ := h
  cases x with
  | non =>
    cases rx
    cases y with
    | non => cases ry; exact PySem.EqNone.ne_none_none (fin_bl I q (by simp))
    | bl j => cases ry; exact PySem.EqNone.ne_none_bool (fin_bl I q (by simp))
    | int j => obtain ⟨t', rfl⟩ := ry; exact PySem.EqNone.ne_none_int (fin_bl I q (by simp))
    | str j => obtain ⟨t', rfl⟩ := ry; exact PySem.EqNone.ne_none_str (fin_bl I q (by simp))
    | _ => exact absurd (show false = true from hs) Bool.false_ne_true
  | bl i =>
    cases rx
    cases y with
    | non => cases ry; exact PySem.EqNone.ne_bool_none (fin_bl I q (by simp))
    | bl j => cases ry; exact ne_bool (fin_bl I q (congrArg not dec_bl))
    | str j => obtain ⟨t', rfl⟩ := ry; exact PySem.EqMixed.ne_bool_str (fin_bl I q (by simp))
    | _ => exact absurd (show false = true from hs) Bool.false_ne_true
  | int i =>
    obtain ⟨t, rfl⟩ := rx
    cases y with
    | non => cases ry; exact PySem.EqNone.ne_int_none (fin_bl I q (by simp))
    | int j => obtain ⟨t', rfl⟩ := ry; exact ne_int (fin_bl I q (congrArg not dec_int))
    | str j => obtain ⟨t', rfl⟩ := ry; exact PySem.EqMixed.ne_int_str (fin_bl I q (by simp))
    | _ => exact absurd (show false = true from hs) Bool.false_ne_true
  | str i =>
    obtain ⟨t, rfl⟩ := rx
    cases y with
    | non => cases ry; exact PySem.EqNone.ne_str_none (fin_bl I q (by simp))
    | bl j => cases ry; exact PySem.EqMixed.ne_str_bool (fin_bl I q (by simp))
    | int j => obtain ⟨t', rfl⟩ := ry; exact PySem.EqMixed.ne_str_int (fin_bl I q (by simp))
    | str j => obtain ⟨t', rfl⟩ := ry; exact ne_str (fin_bl I q (congrArg not dec_str))
    | _ => exact absurd (show false = true from hs) Bool.false_ne_true
  | byt i =>
    obtain ⟨t, rfl⟩ := rx
    cases y with
    | byt j => obtain ⟨t', rfl⟩ := ry; exact PySem.W.ne_bytes (fin_bl I q (congrArg not dec_byt))
    | _ => exact absurd (show false = true from hs) Bool.false_ne_true
  | _ => cases y <;> exact absurd (show false = true from hs) Bool.false_ne_true
theorem op_lt : OpR X (compareOp .Lt) (rI0 fun i j => .bl (decide (i < j))) := opB0 fun _ _ _ _ _ _ _ q => lt_int q
theorem op_le : OpR X (compareOp .LtE) (rI0 fun i j => .bl (decide (i ≤ j))) := opB0 fun _ _ _ _ _ _ _ q => le_int q
theorem op_gt : OpR X (compareOp .Gt) (rI0 fun i j => .bl (decide (j < i))) := opB0 fun _ _ _ _ _ _ _ q => gt_int q
theorem op_ge : OpR X (compareOp .GtE) (rI0 fun i j => .bl (decide (j ≤ i))) := opB0 fun _ _ _ _ _ _ _ q => ge_int q
theorem nomark (b : Expr) {op : CmpOp} (h : op ≠ .In := by decide) (h2 : op ≠ .NotIn := by decide) : behindInMarks op b = false := by
  have e1 : (op == CmpOp.In) = false := by cases op <;> first | rfl | exact absurd rfl h
  have e2 : (op == CmpOp.NotIn) = false := by cases op <;> first | rfl | exact absurd rfl h2
  cases b <;> simp [behindInMarks, e1, e2]
theorem pe_cmpR {op : CmpOp} {r : R2} (ho : OpR X (compareOp op) r) (ha : PE X a ta) (hb : PE X b tb) (hm : behindInMarks op b = false) : PE X (.Compare a [op] [b] pos) (tOp r ta tb) := by
  intro pins s σ H Q I h
  exact wpAny_Compare1 (binT ha hb I h fun v u s2 x y H2 I2 rx ry q => ho pins s2 σ H2 x y v u Q I2 rx ry q) hm
def tTest (t : TE) : TT := fun σ H Q => t σ H fun x H' => ∃ k, x = .bl k ∧ Q k H'
theorem pt_cmpR {op : CmpOp} {r : R2} (ho : OpR X (compareOp op) r) (ha : PE X a ta) (hb : PE X b tb) (hm : behindInMarks op b = false) : PT X (.Compare a [op] [b] pos) (tTest (tOp r ta tb)) := by
  intro pins s σ H Q I h
  refine wpAny_isTrue_Compare1 (thn (ha pins s σ H _ I h) fun v s1 ⟨x, H1, I1, r1, q1⟩ => thn (hb pins s1 σ H1 _ I1 q1) fun u s2 ⟨y, H2, I2, r2, q2⟩ =>
    thn (ho pins s2 σ H2 x y v u _ I2 r1 r2 q2) fun c s3 ⟨z, H3, I3, r3, k, e, q3⟩ => ?_) hm
  subst e
  cases r3
  exact wpAny_truthy_bool ⟨H3, I3, q3⟩
def tChain (r r' : R2) (ta tb tc : TE) : TE := fun σ H Q => ta σ H fun x H1 => tb σ H1 fun y H2 => r x y H2 fun z H3 => ∃ k, z = .bl k ∧
  (if k = true then tc σ H3 fun w' H4 => r' y w' H4 Q else Q (.bl false) H3)
theorem pe_chain {op op' : CmpOp} {r r' : R2} (ho : OpR X (compareOp op) r) (ho' : OpR X (compareOp op') r') (ha : PE X a ta) (hb : PE X b tb) (hc : PE X c tc)
    (hm : lastMarks [op, op'] [b, c] = false := by with_unfolding_all rfl) : PE X (.Compare a [op, op'] [b, c] pos) (tChain r r' ta tb tc) := by
  intro pins s σ H Q I h
  refine Compare_chain (thn (ha pins s σ H _ I h) fun v s1 ⟨x, H1, I1, r1, q1⟩ => chain_link (thn (hb pins s1 σ H1 _ I1 q1) fun u s2 ⟨y, H2, I2, r2, q2⟩ =>
    thn (ho pins s2 σ H2 x y v u _ I2 r1 r2 q2) fun d s3 ⟨z, H3, I3, r3, k, e, q3⟩ => ?_)) hm
  subst e
  cases r3
  refine wpAny_truthy_bool ?_
  cases k with
  | false => exact ite_ff ⟨.bl false, H3, I3, rfl, q3⟩
  | true => exact ite_tt (chain_last (thn (hc pins s3 σ H3 _ I3 q3) fun w' s4 ⟨z', H4, I4, r4, q4⟩ => ho' pins s4 σ H4 y z' u w' Q I4 r2 r4 q4))
theorem line63 : (sizeLine : Nat) < 2 ^ 63 := by rw [sizeLine_eq]; decide
theorem op_add_str : OpR X (binaryOp .Add) (fun x y H Q => ∃ i j, x = .str i ∧ y = .str j ∧ i.length + j.length ≤ sizeLine ∧ Q (.str (i ++ j)) H) := by
  intro pins s σ H x y v u Q I rx ry h
  obtain ⟨i, j, rfl, rfl, hz, q⟩ := h
  obtain ⟨t, rfl⟩ := rx
  obtain ⟨t', rfl⟩ := ry
  exact add_str (fun t' tk => ⟨.str (i ++ j), H, I.tok _, ⟨_, rfl⟩, q⟩) hz
theorem vals1 {x : V} {us : List Value} (r : Vals [x] us) : ∃ u, us = [u] ∧ RelV x u := by
  cases r with
  | cons r1 r2 => cases r2; exact ⟨_, rfl, r1⟩
theorem vals2 {x y : V} {us : List Value} (r : Vals [x, y] us) : ∃ u w', us = [u, w'] ∧ RelV x u ∧ RelV y w' := by
  cases r with
  | cons r1 r2 =>
    cases r2 with
    | cons r3 r4 => cases r4; exact ⟨_, _, rfl, r1, r3⟩
end
end L2
namespace L2
open PySem PySem.Spec PyProof.Rows
structure ObjM (h : Heap) (x dx C : Addr) (mA : Str → Option Value) : Prop where
  obj : h.get? x = some (PySem.W.instObj C dx)
  ns : h.Ns1 dx mA
  ne : dx ≠ x
theorem lookIn_ns {h : Heap} {dx : Addr} {mA : Str → Option Value} (n : h.Ns1 dx mA) : ∃ od, h.get? dx = some od ∧ ∀ name, PySem.W.lookIn name od = some (mA name) := by
  obtain ⟨o, es, ep, ho, hd, hk, _, hm⟩ := n
  refine ⟨o, ho, fun name => ?_⟩
  have e := hm name
  unfold nsFind findBy at e
  rw [← Array.find?_toList] at e
  unfold PySem.W.lookIn
  rw [hd]
  dsimp only
  split
  · rename_i y q
    rw [q] at e
    exact congrArg some e
  · rename_i q
    rw [q] at e
    have a : es.toList.any (·.refKey) = false := by
      rw [List.any_eq_false]
      intro y hy
      obtain ⟨z, t, hkey⟩ := hk y (Array.mem_toList_iff.mp hy)
      simp [DictEntry.refKey, hkey]
    have a' : ¬ es.toList.any (·.refKey) = true := by rw [a]; exact Bool.false_ne_true
    rw [if_neg a']
    exact congrArg some e
theorem ObjM.look {h : Heap} {x dx C : Addr} {mA : Str → Option Value} (I : ObjM h x dx C mA) : ∃ od, PySem.W.InstAt h x (PySem.W.instObj C dx) C (some od) ∧ ∀ name, PySem.W.lookIn name od = some (mA name) :=
  let ⟨od, ho, hl⟩ := lookIn_ns I.ns
  ⟨od, ⟨I.obj, rfl, rfl, ho⟩, hl⟩
section
variable {prog : Program} {w : World} {A : Around} {E : Value → Shared → Prop} {s : Shared} {K : PySem.W.Frag} {x dx C f : Addr} {mA : Str → Option Value} {name : Str} {v : Value}
theorem get_map {expr : Bool} {Q : Value → Shared → Prop} (X : K.In s.heap) (I : ObjM s.heap x dx C mA) (hg : PySem.W.plainGet K C name = true) (hh : PySem.W.hasDictIn K C = true)
    (ha : PySem.W.findIn K (.ref C) name = some none) (hv : mA name = some v) (hv' : PySem.W.handedIn v = true) (h : Q v { s with toks := s.toks + 1 }) :
    wpAny (model prog w) A (getAttr (.ref x) name expr) Q E s := by
  obtain ⟨od, J, hl⟩ := I.look
  exact PySem.W.get_value X J (PySem.W.plainGet_of hg).1 (PySem.W.findObj_own hh ha rfl (by rw [hl, hv])) hv' h
theorem get_meth {pl : Sem Bool} {Q : Value × List Value → Shared → Prop} (X : K.In s.heap) (I : ObjM s.heap x dx C mA) (hg : PySem.W.plainGet K C name = true)
    (hf : PySem.W.findIn K (.ref C) name = some (some (.ref f))) (ht : PySem.W.isFn K (.ref f) = true) (hv : mA name = none) (h : Q (.ref f, [.ref x]) s) :
    wpAny (model prog w) A (getMethod (.ref x) name pl) Q E s := by
  obtain ⟨od, J, hl⟩ := I.look
  exact PySem.W.method_fn X J (PySem.W.plainGet_of hg).1 (PySem.W.plainGet_of hg).2 hf (beq_iff_eq.mp ht) (by show (PySem.W.lookIn name od).map (·.isSome) = some false; rw [hl, hv]; rfl) h
theorem set_map {ns : List Str} {Q : Unit → Shared → Prop} (X : K.In s.heap) (I : ObjM s.heap x dx C mA)
    (hs : PySem.W.findIn K (.ref C) "__setattr__" = some (some (.builtin "object.__setattr__"))) (hp : PySem.W.plainOver K C = true) (ht : PySem.W.takerIn K C name = some none) (hh : PySem.W.hasDictIn K C = true)
    (hw : PySem.Within mA ns) (hsz : ns.length ≤ sizeLine)
    (h : ∀ h', ObjM h' x dx C (fun y => if y = name then some v else mA y) → Heap.SameBut dx s.heap h' → Q () { s with heap := h', toks := s.toks + 2 }) :
    wpAny (model prog w) A (setAttr (.ref x) name v) Q E s := by
  obtain ⟨od, J, hl⟩ := I.look
  refine PySem.W.set_plain X J hs (PySem.W.osa_open (s := { s with toks := s.toks + 1 }) (r := none) X J hp ht fun b => ?_)
  obtain ⟨cd, hc, hd'⟩ := PySem.W.any_some hh
  have hx : s.heap.get? x = some ⟨.ref C, some dx, .plain, #[]⟩ := I.obj
  refine wpAny_bind (wpAny_pure (wpAny_bind (wpAny_bind (wpAny_loadPart hx (wpAny_bind (PySem.W.Looks.here (s := { s with toks := s.toks + 1 }) (PySem.W.looks_clsIn X hc) ?_))))))
  rw [hd']
  refine wpAny_pure (a := some dx) (wpAny_bind (wpAny_pure (wpAny_bind ?_)))
  refine wpAny_nsSet1 (s := { s with toks := s.toks + 1 }) I.ns fun h' hn2 hs2 => ?_
  obtain ⟨oD, esD, epD, hoD, hdD, hcD⟩ := hn2.count (PySem.Within.cons name v hw)
  refine wpAny_bind (wpAny_lookBehind hoD (by rw [hdD]; exact pastItsLine_dict (Nat.le_trans hcD (by rw [List.length_cons]; omega))) ?_)
  exact wpAny_pure (h _ ⟨(hs2.2 _ (Ne.symm I.ne)).trans I.obj, hn2, I.ne⟩ hs2)
theorem make_map {R : Result → Shared → Prop} {vs : List Value} {kw : List (Str × Value)} (X : K.In s.heap) (hm : PySem.W.makesIn K C = true)
    (hi : PySem.W.findIn K (.ref C) "__init__" = some (some (.ref f))) (hf : PySem.W.typeIn K (.ref f) = some (.type "function"))
    (h : codeAny (model prog w) (A.under (.builtin "type.__call__" ⟨.ref C :: vs, kw⟩)) (.call (.ref f) ⟨.ref (s.heap.objs.size + 1) :: vs, kw⟩) (PySem.W.InitBack (s.heap.objs.size + 1) R)
      { s with heap := (s.heap.push PySem.W.emptyDict).push (PySem.W.instObj C s.heap.objs.size) }) :
    codeAny (model prog w) A (.call (.ref C) ⟨vs, kw⟩) R s := by
  obtain ⟨hh, g, d, t, os⟩ := s
  exact PySem.W.make_core (PySem.W.makes_of X hm) (PySem.W.looks_findIn X hi) (fun self => PySem.W.bind_fn X self hf) (.inl rfl) h
end
def putF (f : Str) (v : V) : List (Str × V) → List (Str × V)
  | [] => [(f, v)]
  | (g, x) :: r => if g = f then (g, v) :: r else (g, x) :: putF f v r
theorem lookup_putF (f g : Str) (v : V) : ∀ fs : List (Str × V), (putF f v fs).lookup g = if g = f then some v else fs.lookup g
  | [] => by
    show List.lookup g [(f, v)] = _
    by_cases h : g = f
    · have hb : (g == f) = true := beq_iff_eq.mpr h
      simp only [List.lookup, hb, if_pos h]
    · have hb : (g == f) = false := beq_eq_false_iff_ne.mpr h
      simp only [List.lookup, hb, if_neg h]
  | (k, x) :: r => by
    have ih := lookup_putF f g v r
    rw [show putF f v ((k, x) :: r) = (if k = f then (k, v) :: r else (k, x) :: putF f v r) from rfl]
    by_cases hk : k = f
    · rw [if_pos hk]
      by_cases h : g = k
      · have hb : (g == k) = true := beq_iff_eq.mpr h
        simp only [List.lookup, hb, if_pos (h.trans hk)]
      · have hb : (g == k) = false := beq_eq_false_iff_ne.mpr h
        simp only [List.lookup, hb, if_neg (fun e : g = f => h (e.trans hk.symm))]
    · rw [if_neg hk]
      by_cases h : g = k
      · have hb : (g == k) = true := beq_iff_eq.mpr h
        simp only [List.lookup, hb, if_neg (fun e : g = f => hk (h.symm.trans e))]
      · have hb : (g == k) = false := beq_eq_false_iff_ne.mpr h
        simp only [List.lookup, hb]
        exact ih
theorem keys_putF (f : Str) (v : V) : ∀ fs : List (Str × V), f ∈ (putF f v fs).map (·.1) ∧ ∀ g, g ∈ fs.map (·.1) → g ∈ (putF f v fs).map (·.1)
  | [] => ⟨by simp [putF], fun g h => by simp at h⟩
  | (k, x) :: r => by
    obtain ⟨i1, i2⟩ := keys_putF f v r
    rw [show putF f v ((k, x) :: r) = (if k = f then (k, v) :: r else (k, x) :: putF f v r) from rfl]
    by_cases hk : k = f
    · rw [if_pos hk]
      subst hk
      exact ⟨by simp, fun g h => by simpa using h⟩
    · rw [if_neg hk]
      refine ⟨?_, fun g h => ?_⟩
      · rw [List.map_cons]
        exact List.mem_cons_of_mem _ i1
      · rw [List.map_cons] at h ⊢
        rcases List.mem_cons.mp h with e | e
        · exact List.mem_cons.mpr (.inl e)
        · exact List.mem_cons_of_mem _ (i2 g e)
theorem length_putF (f : Str) (v : V) : ∀ fs : List (Str × V), (putF f v fs).length ≤ fs.length + 1
  | [] => by simp [putF]
  | (k, x) :: r => by
    have ih := length_putF f v r
    rw [show putF f v ((k, x) :: r) = (if k = f then (k, v) :: r else (k, x) :: putF f v r) from rfl]
    by_cases hk : k = f
    · rw [if_pos hk, List.length_cons, List.length_cons]; omega
    · rw [if_neg hk, List.length_cons, List.length_cons]; omega
theorem RelO.some_of {v : V} {o : Option Value} (r : RelO (some v) o) : ∃ u, o = some u ∧ RelV v u := by
  cases o with
  | none => exact (show False from r).elim
  | some u => exact ⟨u, rfl, r⟩
theorem RelO.none_of {o : Option Value} (r : RelO none o) : o = none := by
  cases o with
  | none => rfl
  | some u => exact (show False from r).elim
theorem handed_of {v : V} {u : Value} (r : RelV v u) : PySem.W.handedIn u = true := by
  cases v with
  | non => cases (show u = Value.none from r); rfl
  | bl b => cases (show u = Value.bool b from r); rfl
  | int i => obtain ⟨t, e⟩ := (show ∃ t, u = Value.int i t from r); cases e; rfl
  | str x => obtain ⟨t, e⟩ := (show ∃ t, u = Value.str x t from r); cases e; rfl
  | byt b => obtain ⟨t, e⟩ := (show ∃ t, u = Value.bytes b t from r); cases e; rfl
  | flt b => obtain ⟨t, e⟩ := (show ∃ t, u = Value.float b t from r); cases e; rfl
  | ref a => cases (show u = Value.ref a from r); rfl
  | ty n => cases (show u = Value.type n from r); rfl
section
variable {P : Program} {w : World} {H H' : Hp} {h h' : Heap} {a C dx : Addr} {fs fs' : List (Str × V)}
theorem ins_get (hok : HOk P w H h) (e : H a = some (.ins C dx fs)) : ∃ mA, ObjM h a dx C mA ∧ (∀ f, RelO (fs.lookup f) (mA f)) ∧ PySem.Within mA (fs.map (·.1)) ∧ fs.length ≤ 1000 ∧ H dx = some (.own a) := by
  obtain ⟨d, z, ne, ob, mA, n, r, q⟩ := (show ObjOk P w H h a (.ins C dx fs) from hok a _ e)
  exact ⟨mA, ⟨ob, n, ne⟩, r, q, z, d⟩
end
structure Cls (K : PySem.W.Frag) (C : Addr) : Prop where
  pg : PySem.W.plainGet K C Str.empty = true
  hd : PySem.W.hasDictIn K C = true
  po : PySem.W.plainOver K C = true
  sa : PySem.W.findIn K (.ref C) "__setattr__" = some (some (.builtin "object.__setattr__"))
theorem Cls.get {K : PySem.W.Frag} {C : Addr} (c : Cls K C) (f : Str) : PySem.W.plainGet K C f = true := c.pg
def NoAttr (K : PySem.W.Frag) (C : Addr) (f : Str) : Prop := PySem.W.findIn K (.ref C) f = some none
theorem NoAttr.taker {K : PySem.W.Frag} {C : Addr} {f : Str} (n : NoAttr K C f) : PySem.W.takerIn K C f = some none := by
  unfold PySem.W.takerIn
  rw [show PySem.W.findIn K (.ref C) f = some none from n]
  rfl
structure Meth (K : PySem.W.Frag) (C : Addr) (m : Str) (f : Addr) : Prop where
  at_ : PySem.W.findIn K (.ref C) m = some (some (.ref f))
  fn : PySem.W.isFn K (.ref f) = true
  kp : PySem.W.keepIn K (.ref f) = true
section
variable {X : Cx} {pins : List (Addr × Obj)} {σ : St} {H : Hp} {s : Shared} {a C dx : Addr} {fs : List (Str × V)} {f : Str} {v : V} {A : Around} {E : Value → Shared → Prop}
theorem getattr_ok {b : Bool} {Q : Value → Shared → Prop} (I : Inv X pins σ H s) (e : H a = some (.ins C dx fs)) (c : Cls X.K C) (n : NoAttr X.K C f) (l : fs.lookup f = some v)
    (h : ∀ u s', Inv X pins σ H s' → RelV v u → Q u s') : wpAny (model X.prog X.w) A (getAttr (.ref a) f b) Q E s := by
  obtain ⟨mA, O, r, _, _, _⟩ := ins_get I.hok e
  obtain ⟨u, hu, ru⟩ := RelO.some_of (v := v) (o := mA f) (by rw [← l]; exact r f)
  exact get_map I.kIn O (c.get f) c.hd n hu (handed_of ru) (h u _ (I.tok _) ru)
theorem getmeth_ok {m : Str} {g : Addr} {pl : Sem Bool} {Q : Value × List Value → Shared → Prop} (I : Inv X pins σ H s) (e : H a = some (.ins C dx fs)) (c : Cls X.K C) (k : Meth X.K C m g) (l : fs.lookup m = none)
    (h : Q (.ref g, [.ref a]) s) : wpAny (model X.prog X.w) A (getMethod (.ref a) m pl) Q E s := by
  obtain ⟨mA, O, r, _, _, _⟩ := ins_get I.hok e
  have hn : mA m = none := RelO.none_of (by rw [← l]; exact r m)
  exact get_meth I.kIn O (c.get m) k.at_ k.fn hn h
theorem setattr_ok {y : V} {u : Value} {Q : Unit → Shared → Prop} (I : Inv X pins σ H s) (e : H a = some (.ins C dx fs)) (c : Cls X.K C) (n : NoAttr X.K C f) (hl : fs.length < 1000) (ry : RelV y u)
    (h : ∀ s', Inv X pins σ (upd H a (.ins C dx (putF f y fs))) s' → Q () s') : wpAny (model X.prog X.w) A (setAttr (.ref a) f u) Q E s := by
  obtain ⟨mA, O, r, wi, _, ho⟩ := ins_get I.hok e
  have hz : (fs.map (·.1)).length ≤ sizeLine := by rw [List.length_map, sizeLine_eq]; omega
  refine set_map I.kIn O c.sa c.po n.taker c.hd wi hz fun h' O' sb => h _ ?_
  have hd : ∃ o, h'.get? dx = some o := let ⟨o, _, _, e', _⟩ := O'.ns; ⟨o, e'⟩
  refine I.write (x := a) (e := dx) (by rw [e]; exact True.intro) (.inr ho) (fun b q hb z => (sb.2 b hb).trans z) hd ?_
  refine ⟨by rw [upd_ne O.ne]; exact ho, ?_, O.ne, O'.obj, _, O'.ns, fun g => ?_, fun g hg => ?_⟩
  · have := length_putF f y fs; omega
  · show RelO ((putF f y fs).lookup g) (if g = f then some u else mA g)
    rw [lookup_putF]
    by_cases q : g = f
    · rw [if_pos q, if_pos q]; exact ry
    · rw [if_neg q, if_neg q]; exact r g
  · by_cases q : g = f
    · rw [q]; exact (keys_putF f y fs).1
    · refine (keys_putF f y fs).2 g (wi g fun z => hg ?_)
      show (if g = f then some u else mA g) = none
      rw [if_neg q]; exact z
theorem Inv.made (I : Inv X pins σ H s) : Inv X pins σ (upd (upd H s.heap.objs.size (.own (s.heap.objs.size + 1))) (s.heap.objs.size + 1) (.ins C s.heap.objs.size []))
    { s with heap := (s.heap.push PySem.W.emptyDict).push (PySem.W.instObj C s.heap.objs.size) } := by
  have e1 : (s.heap.push PySem.W.emptyDict).get? s.heap.objs.size = some PySem.W.emptyDict := Heap.get?_push_size s.heap rfl
  have e2 : ((s.heap.push PySem.W.emptyDict).push (PySem.W.instObj C s.heap.objs.size)).get? (s.heap.objs.size + 1) = some (PySem.W.instObj C s.heap.objs.size) := by
    have := Heap.get?_push_size (s.heap.push PySem.W.emptyDict) (o := PySem.W.instObj C s.heap.objs.size) rfl
    rwa [Heap.size_push] at this
  have e3 : (s.heap.push PySem.W.emptyDict).Ns s.heap.objs.size (fun _ => none) := ⟨PySem.W.emptyDict, #[], _, e1, rfl, (fun e he => absurd he (by simp)), fun _ => rfl⟩
  have I1 := I.laid (a := s.heap.objs.size) (o := .own (s.heap.objs.size + 1)) (h' := s.heap.push PySem.W.emptyDict) (t' := s.toks) (fun b u q => Heap.get?_push_of_some _ q) (Nat.le_refl _) ⟨_, e1⟩
  refine I1.laid (a := s.heap.objs.size + 1) (o := .ins C s.heap.objs.size []) (t' := s.toks) (fun b u q => Heap.get?_push_of_some _ q) (Nat.le_of_eq (Heap.size_push _ _)) ?_
  have ne : s.heap.objs.size ≠ s.heap.objs.size + 1 := Nat.ne_of_lt (Nat.lt_succ_self _)
  refine ⟨by rw [upd_ne ne, upd_same], Nat.zero_le _, ne, e2, fun _ => none, (Heap.Ns1.of_empty e3).at fun o q => Heap.get?_push_of_some _ q, fun _ => True.intro, fun y hy => absurd rfl hy⟩
theorem attr_of {prog : Program} {w : World} {env : Env} {e : Expr} {f : Str} {pos : Pos} {s : Shared} {Q : Value → Shared → Prop} (hb : attributeBase e f env (eval e env) = eval e env)
    (h : wpAny (model prog w) A (eval e env) (fun o s₁ => wpAny (model prog w) A (getAttr o f true) Q E s₁) E s) : wpAny (model prog w) A (eval (.Attribute e f pos) env) Q E s :=
  Attribute_any_ h (by rw [arm_eval_Attribute, hb])
end
def tFld (K : PySem.W.Frag) (ta : TE) (f : Str) : TE := fun σ H Q => ta σ H fun x H1 => ∃ a C dx fs v, x = .ref a ∧ H1 a = some (.ins C dx fs) ∧ Cls K C ∧ NoAttr K C f ∧ fs.lookup f = some v ∧ Q v H1
def sFld (K : PySem.W.Frag) (ta tv : TE) (f : Str) : TS := fun D σ H => tv σ H fun y H1 => ta σ H1 fun x H2 => ∃ a C dx fs, x = .ref a ∧ H2 a = some (.ins C dx fs) ∧ Cls K C ∧ NoAttr K C f ∧ fs.length < 1000 ∧
  D.nx σ (upd H2 a (.ins C dx (putF f y fs)))
section
variable {X : Cx} {o e value : Expr} {f : Str} {pos pos' tpos : Pos} {ta tv : TE}
theorem pe_fld (he : PE X e ta) (hb : attributeBase e f X.env (eval e X.env) = eval e X.env) : PE X (.Attribute e f pos) (tFld X.K ta f) := by
  intro pins s σ H Q I h
  refine attr_of hb (thn (he pins s σ H _ I h) fun u s1 ⟨x, H1, I1, rx, a, C, dx, fs, v, ex, ea, c, n, l, q⟩ => ?_)
  subst ex
  obtain rfl : u = Value.ref a := rx
  exact getattr_ok I1 ea c n l fun u' s2 I2 ru => ⟨v, H1, I2, ru, q⟩
theorem ps_fld (ha : PE X o ta) (hv : PE X value tv) (hs : swapsWith value (some (.Attribute o f pos')) pos.line X.env = pure false) : PS X (.Assign [.Attribute o f pos'] value pos) (sFld X.K ta tv f) := by
  intro pins s σ H D I h
  refine plainObj_wpAny_Assign_Attribute (thn (hv pins s σ H _ I h) fun u s1 ⟨y, H1, I1, ry, q⟩ => thn (ha pins s1 σ H1 _ I1 q) fun ov s2 ⟨x, H2, I2, rx, a, C, dx, fs, ex, ea, c, n, l, q2⟩ => ?_) hs
  subst ex
  obtain rfl : ov = Value.ref a := rx
  exact setattr_ok I2 ea c n l ry fun s3 I3 => ⟨σ, _, I3, q2⟩
end
section
variable {X : Cx} {pins : List (Addr × Obj)} {σ : St} {H : Hp} {s : Shared} {A : Around} {E : Value → Shared → Prop} {Q : Value → Shared → Prop} {c : Value} {b : Bool}
inductive TyOf (K : PySem.W.Frag) (H : Hp) : V → Value → Prop where
  | non : TyOf K H .non (.type "NoneType")
  | bl (x : Bool) : TyOf K H (.bl x) (.type "bool")
  | int (i : Int) : TyOf K H (.int i) (.type "int")
  | str (x : Str) : TyOf K H (.str x) (.type "str")
  | flt (x : UInt64) : TyOf K H (.flt x) (.type "float")
  | lst {a : Addr} {xs : List V} (e : H a = some (.lst xs)) : TyOf K H (.ref a) (.type "list")
  | frz {a : Addr} {o : Obj} {xs : List V} (e : H a = some (.frz o (.lst xs))) : TyOf K H (.ref a) (.type "list")
  | tup {a : Addr} {xs : List V} (e : H a = some (.tup xs)) : TyOf K H (.ref a) (.type "tuple")
  | dK {a : Addr} {kvs : List (Key × V)} (e : H a = some (.dK kvs)) : TyOf K H (.ref a) (.type "dict")
  | dT {a : Addr} {kvs : List (List Key × V)} (e : H a = some (.dT kvs)) : TyOf K H (.ref a) (.type "dict")
  | ins {a C dx : Addr} {fs : List (Str × V)} (e : H a = some (.ins C dx fs)) (cl : Cls K C) (ha : PySem.W.findIn K (.ref C) "__class__" = some (some (.builtin "object.__class__")))
      (hn : PySem.W.specialIn K (.builtin "object.__class__") "__get__" = some (some (.builtin "getset_descriptor.__get__"))) (htk : PySem.W.takesIn K (.builtin "object.__class__") = some true)
      (hm : PySem.W.mroIn K C (.type "object") = some true) : TyOf K H (.ref a) (.ref C)
theorem isinst_ok {x : V} {u t : Value} (I : Inv X pins σ H s) (rx : RelV x u) (ty : TyOf X.K H x t) (e : PySem.W.kitOne X.K t c = some b) (h : ∀ tk, Q (.bool b) { s with toks := tk }) :
    wpAny (model X.prog X.w) A (call (.builtin "isinstance") [u, c]) Q E s := by
  cases ty with
  | non => cases (show u = Value.none from rx); exact PySem.W.kia_one PySem.W.kitx_none I.kIn True.intro e (fun z => nomatch z) h
  | bl y => cases (show u = Value.bool y from rx); exact PySem.W.kia_one PySem.W.kitx_bool I.kIn True.intro e (fun z => nomatch z) h
  | int i => obtain ⟨t, q⟩ := (show ∃ t, u = Value.int i t from rx); cases q; exact PySem.W.kia_one PySem.W.kitx_int I.kIn True.intro e (fun z => nomatch z) h
  | str y => obtain ⟨t, q⟩ := (show ∃ t, u = Value.str y t from rx); cases q; exact PySem.W.kia_one PySem.W.kitx_str I.kIn True.intro e (fun z => nomatch z) h
  | flt y => obtain ⟨t, q⟩ := (show ∃ t, u = Value.float y t from rx); cases q; exact PySem.W.kia_one PySem.W.kitx_float I.kIn True.intro e (fun z => nomatch z) h
  | @lst a xs ea =>
    cases (show u = Value.ref a from rx)
    obtain ⟨_, _, n, _, h1⟩ := (show ObjOk X.prog X.w H s.heap a (.lst xs) from I.hok a _ ea)
    exact PySem.W.kia_one PySem.W.kitx_list I.kIn ⟨_, h1, rfl⟩ e (fun z => nomatch z) h
  | @frz a ob xs ea =>
    cases (show u = Value.ref a from rx)
    obtain ⟨_, _, _, n, _, h1⟩ := (show ObjOk X.prog X.w H s.heap a (.frz ob (.lst xs)) from I.hok a _ ea)
    exact PySem.W.kia_one PySem.W.kitx_list I.kIn ⟨_, h1, rfl⟩ e (fun z => nomatch z) h
  | @tup a xs ea =>
    cases (show u = Value.ref a from rx)
    obtain ⟨_, _, _, p⟩ := (show ObjOk X.prog X.w H s.heap a (.tup xs) from I.hok a _ ea)
    obtain ⟨o, h1, h2, _⟩ := p
    exact PySem.W.kia_one PySem.W.kitx_tuple I.kIn ⟨o, h1, h2⟩ e (fun z => nomatch z) h
  | @dK a kvs ea =>
    cases (show u = Value.ref a from rx)
    obtain ⟨_, _, vs, _, p⟩ := (show ObjOk X.prog X.w H s.heap a (.dK kvs) from I.hok a _ ea)
    obtain ⟨o, es, ep, h1, h2, _⟩ := p
    exact PySem.W.kia_one PySem.W.kitx_dict I.kIn ⟨o, h1, h2.1⟩ e (fun z => nomatch z) h
  | @dT a kvs ea =>
    cases (show u = Value.ref a from rx)
    obtain ⟨_, _, xs, _, o, es, ep, h1, h2, _⟩ := (show ObjOk X.prog X.w H s.heap a (.dT kvs) from I.hok a _ ea)
    exact PySem.W.kia_one PySem.W.kitx_dict I.kIn ⟨o, h1, h2.1⟩ e (fun z => nomatch z) h
  | @ins a C dx fs ea cl ha hn htk hm =>
    cases (show u = Value.ref a from rx)
    obtain ⟨mA, O, _⟩ := ins_get I.hok ea
    obtain ⟨od, J, _⟩ := O.look
    exact PySem.W.kia_one (PySem.W.kitx_own (cl.get _) cl.hd ha hn htk hm) I.kIn J e (fun z => nomatch z) h
end
end L2
namespace L2
open PySem PySem.Spec PyProof.Rows
structure Room (k : Nat) (A : Around) : Prop where
  hd : A.handled = none
  dp : A.depth + 3 * k + 5 < recursionLimit
  un : A.units + 16 * k + 200 < cLine
theorem Room.mono {j k : Nat} {A : Around} (r : Room k A) (h : j ≤ k) : Room j A := ⟨r.hd, by have := r.dp; omega, by have := r.un; omega⟩
theorem Room.deeper {k : Nat} {A : Around} (r : Room (k + 1) A) (env : Env) : Room k (A.deeper env) :=
  ⟨r.hd, by have := r.dp; show A.depth + 1 + 3 * k + 5 < _; omega, by have := r.un; show A.units + 3 + 16 * k + 200 < _; omega⟩
theorem make_depth {A : Around} {C : Addr} {us : List Value} {kw : List (Str × Value)} : (A.under (.builtin "type.__call__" ⟨.ref C :: us, kw⟩)).depth = A.depth + 1 := by
  first | rfl | simp [Around.under, Code.weight, Code.isCreation, Code.isGuard, Code.isCaller, Code.frames, Code.isFrame, guardIds]
theorem make_units {A : Around} {C : Addr} {us : List Value} {kw : List (Str × Value)} : (A.under (.builtin "type.__call__" ⟨.ref C :: us, kw⟩)).units = A.units + 1 := by
  first | rfl | simp [Around.under, Code.cUnits, Code.frames, Code.isFrame]
theorem Room.make {k : Nat} {A : Around} (r : Room (k + 1) A) (C : Addr) (us : List Value) (kw : List (Str × Value)) : Room k (A.under (.builtin "type.__call__" ⟨.ref C :: us, kw⟩)) :=
  ⟨r.hd, by have := r.dp; rw [make_depth]; omega, by have := r.un; rw [make_units]; omega⟩
theorem Room.depth {k : Nat} {A : Around} (r : Room k A) : A.depth < recursionLimit := by have := r.dp; omega
theorem Room.units {k : Nat} {A : Around} (r : Room k A) : A.units + 64 < cLine := by have := r.un; omega
def tNil : TA := fun _ H Q => Q [] H
def tCons (ta : TE) (tr : TA) : TA := fun σ H Q => ta σ H fun x H1 => tr σ H1 fun xs H2 => Q (x :: xs) H2
section
variable {X : Cx} {e : Expr} {es : List Expr} {te : TE} {t : TA} {pos : Pos}
theorem pa_nil : PA X [] tNil := fun _ _ _ _ H Q I h => Calls.spliced_nil ⟨[], H, I, .nil, h⟩
theorem pa_cons (ha : PE X e te) (hr : PA X es t) (hs : starEach (e :: es) X.env = (false, eval e X.env) :: starEach es X.env := by rfl) : PA X (e :: es) (tCons te t) := by
  intro pos pins s σ H Q I h
  rw [hs]
  show wpAny _ _ (spliced ((false, eval e X.env) :: backTo pos (starEach es X.env))) _ _ s
  refine Calls.spliced_cons (thn (ha pins s σ H _ I h) fun u s1 ⟨x, H1, I1, r1, q1⟩ => ?_)
  exact thn (hr pos pins s1 σ H1 _ I1 q1) fun us s2 ⟨xs, H2, I2, r2, q2⟩ => ⟨x :: xs, H2, I2, .cons r1 r2, q2⟩
def tTup (t : TA) : TE := fun σ H Q => t σ H fun xs H1 => xs.length ≤ sizeLine ∧ ∀ p, H1 p = none → Q (.ref p) (upd H1 p (.tup xs))
def tLst (t : TA) : TE := fun σ H Q => t σ H fun xs H1 => xs.length ≤ sizeLine ∧ ∀ p, H1 p = none → Q (.ref p) (upd H1 p (.lst xs))
theorem pe_tup {x1} (h : PA X es t) : PE X (.Tuple es x1 pos) (tTup t) := by
  intro pins s σ H Q I hq
  refine wpAny_Tuple_spliced (thn (h pos pins s σ H _ I hq) fun us s1 ⟨xs, H1, I1, r, z, q⟩ => ⟨by rw [← r.length]; exact z, ?_⟩)
  have hf : H1 s1.heap.objs.size = none := I1.hok.fresh (Nat.le_refl _)
  refine ⟨.ref s1.heap.objs.size, upd H1 s1.heap.objs.size (.tup xs), I1.laid (t' := s1.toks) (fun b u e => Heap.get?_push_of_some _ e) (Nat.le_refl _) ?_, rfl, q _ hf⟩
  exact ⟨z, us, r, ⟨_, Heap.get?_push_size _ rfl, rfl, _, rfl⟩⟩
theorem pe_lst (h : PA X es t) : PE X (.List es pos) (tLst t) := by
  intro pins s σ H Q I hq
  refine wpAny_List_spliced (thn (h pos pins s σ H _ I hq) fun us s1 ⟨xs, H1, I1, r, z, q⟩ => ⟨by rw [← r.length]; exact z, ?_⟩)
  have hf : H1 s1.heap.objs.size = none := I1.hok.fresh (Nat.le_refl _)
  refine ⟨.ref s1.heap.objs.size, upd H1 s1.heap.objs.size (.lst xs), I1.laid (t' := s1.toks) (fun b u e => Heap.get?_push_of_some _ e) (Nat.le_refl _) ?_, rfl, q _ hf⟩
  exact ⟨z, us, 0, r, Heap.get?_push_size _ rfl⟩
end
abbrev Sp := List V → Hp → VK → XK → Prop
abbrev CXT := List Env → Hp → Shared → XK → Value → Shared → Prop
structure Env0 (P : Program) (w : World) (K : PySem.W.Frag) (mg : Str → Option Value) (base : Heap) (A : Around) (outer : List Env) (s : Shared) (H : Hp) : Prop where
  frames : A.frames = some outer
  mod : Mod K mg base
  bs : ∀ b o, base.get? b = some o → s.heap.get? b = some o ∧ H b = none
  bsz : base.objs.size ≤ s.heap.objs.size
  funs : s.heap.FunFrames base outer
  frf : ∀ b ∈ frs outer, H b = none
  hok : HOk P w H s.heap
  bare : AllBare s.gens
def CE (outer : List Env) (P : Program) (w : World) (H : Hp) (s : Shared) (Q : VK) (u : Value) (s' : Shared) : Prop :=
  ∃ v H', s'.os = s.os ∧ AllBare s'.gens ∧ Un (frs outer) [] H H' s.heap s'.heap ∧ HOk P w H' s'.heap ∧ RelV v u ∧ Q v H'
def CR (CX : CXT) (outer : List Env) (P : Program) (w : World) (H : Hp) (s : Shared) (Q : VK) (E : XK) (r : Result) (s' : Shared) : Prop :=
  match r with
  | .ok (.ret u) => CE outer P w H s Q u s'
  | .ok _ => False
  | .error e => CX outer H s E e s'
structure FnOk (P : Program) (w : World) (K : PySem.W.Frag) (mg : Str → Option Value) (base : Heap) (CX : CXT) (k : Nat) (f : Addr) (fd : FuncData) (ps : List Str) (sp : Sp) : Prop where
  len : ∀ vs H Q E, sp vs H Q E → vs.length = ps.length
  run : ∀ (A : Around) (outer : List Env) (s : Shared) (H : Hp) (args : Args) (us : List Value) (vs : List V) (Q : VK) (E : XK), Room k A → Env0 P w K mg base A outer s H → BindsTo s fd args (ps.zip us) → Vals vs us → sp vs H Q E →
    codeAny (model P w) A (.call (.ref f) args) (CR CX outer P w H s Q E) s
theorem Env0.make {P : Program} {w : World} {K : PySem.W.Frag} {mg : Str → Option Value} {base : Heap} {A : Around} {outer : List Env} {s : Shared} {H : Hp} (e : Env0 P w K mg base A outer s H) (C : Addr) (us : List Value) (kw : List (Str × Value)) :
    Env0 P w K mg base (A.under (.builtin "type.__call__" ⟨.ref C :: us, kw⟩)) outer s H := ⟨by first | exact e.frames | (simpa [Around.under, Code.envs, Code.isFrame, pushEnvs] using e.frames), e.mod, e.bs, e.bsz, e.funs, e.frf, e.hok, e.bare⟩
section
variable {X : Cx} {pins : List (Addr × Obj)} {σ : St} {H : Hp} {s s' : Shared}
theorem Inv.env0 (I : Inv X pins σ H s) : Env0 X.prog X.w X.K X.mg X.base X.A X.stack s H :=
  ⟨I.ok.frames, I.ok.mod, I.bs, Nat.le_trans I.ok.bsz I.sz, I.stack, I.stkFree, I.hok, I.bare⟩
theorem Inv.after {Q : VK} {u : Value} (I : Inv X pins σ H s) (h : CE X.stack X.prog X.w H s Q u s') : EP X pins σ Q u s' := by
  obtain ⟨v, H', os, bare, un, hok, r, q⟩ := h
  obtain ⟨hh, g, d, t, os'⟩ := s'
  obtain rfl : os' = s.os := os
  exact ⟨v, H', I.call (h' := hh) (g' := g) (d' := d) (t' := t) (ch := []) un hok bare (fun b z => absurd z (by simp)), r, q⟩
end
def tCall (sp : Sp) (dvs : List V) (E : XK) (t : TA) : TE := fun σ H Q => t σ H fun vs H1 => sp (vs ++ dvs) H1 Q E
def tMeth (C : Addr) (m : Str) (sp : Sp) (dvs : List V) (E : XK) (ta : TE) (t : TA) : TE := fun σ H Q => ta σ H fun x H1 => ∃ a dx fs, x = .ref a ∧ H1 a = some (.ins C dx fs) ∧ fs.lookup m = none ∧
  t σ H1 fun vs H2 => sp (x :: (vs ++ dvs)) H2 Q E
def tMake (C : Addr) (sp : Sp) (dvs : List V) (E : XK) (t : TA) : TE := fun σ H Q => t σ H fun vs H1 => ∀ x dx, H1 x = none → H1 dx = none → dx ≠ x →
  sp (.ref x :: (vs ++ dvs)) (upd (upd H1 dx (.own x)) x (.ins C dx [])) (fun v H2 => v = .non ∧ Q (.ref x) H2) E
def Binds (K : PySem.W.Frag) (fd : FuncData) (ps : List Str) (ds : List Value) : Prop :=
  ∀ (s : Shared) (us : List Value), K.In s.heap → (us ++ ds).length = ps.length → BindsTo s fd ⟨us, []⟩ (ps.zip (us ++ ds))
theorem Binds.all {K : PySem.W.Frag} {fd : FuncData} {ps : List Str} (h : ∀ us : List Value, us.length = ps.length → bindArgs fd ⟨us, []⟩ = pure (ps.zip us)) : Binds K fd ps [] := fun s us _ hl => by
  rw [List.append_nil] at hl ⊢
  exact .of_eq (h us hl)
def Passes (CX : CXT) (X : Cx) (E : XK) : Prop := ∀ (pins : List (Addr × Obj)) (σ : St) (H : Hp) (s : Shared) (e : Value) (s' : Shared), Inv X pins σ H s → CX X.stack H s E e s' → X.xe e s'
section
variable {X : Cx} {CX : CXT} {k : Nat} {f C : Addr} {fd : FuncData} {ps : List Str} {sp : Sp} {dvs : List V} {ds : List Value} {E : XK} {x m : Str} {p pos apos : Pos} {e o : Expr} {es : List Expr} {ta : TE} {t : TA}
theorem run_fn {pins : List (Addr × Obj)} {σ : St} {H : Hp} {s : Shared} {Q : VK} {us : List Value} {vs : List V} (F : FnOk X.prog X.w X.K X.mg X.base CX k f fd ps sp) (hr : Room k X.A) (hb : Binds X.K fd ps ds) (hd : Vals dvs ds) (hx : Passes CX X E)
    (I : Inv X pins σ H s) (r : Vals vs us) (h : sp (vs ++ dvs) H Q E) : wpAny (model X.prog X.w) X.A (call (.ref f) us) (EP X pins σ Q) X.xe s := by
  have r2 : Vals (vs ++ dvs) (us ++ ds) := r.append hd
  have hl : (us ++ ds).length = ps.length := by rw [← r2.length]; exact F.len _ _ _ _ h
  refine wpAny_call (codeAny_mono (F.run X.A X.stack s H ⟨us, []⟩ (us ++ ds) (vs ++ dvs) Q E hr I.env0 (hb s us I.kIn hl) r2 h) fun r s' hq => ?_)
  cases r with
  | error e => exact hx pins σ H s e s' I hq
  | ok fl =>
    cases fl with
    | ret u => exact I.after hq
    | next => exact False.elim hq
    | brk => exact False.elim hq
    | cont => exact False.elim hq
theorem pe_call (F : FnOk X.prog X.w X.K X.mg X.base CX k f fd ps sp) (hr : Room k X.A) (hg : Gl X x) (hm : X.mg x = some (.ref f)) (hk : PySem.W.keepIn X.K (.ref f) = true) (hb : Binds X.K fd ps ds) (hd : Vals dvs ds) (hx : Passes CX X E)
    (ha : PA X (e :: es) t) (hdb : (x == ("__debug__" : Str)) = false := by decide) (he : starEach (e :: es) X.env = (false, eval e X.env) :: starEach es X.env := by rfl) (hpl : (backTo pos (starEach es X.env)).any (·.1) = false := by rfl) :
    PE X (.Call (.Name x p) (e :: es) [] pos) (tCall sp dvs E t) := by
  intro pins s σ H Q I h
  refine wpAny_Call_Name_kw (ld_glob I hg hm ?_ hdb)
  refine PySem.W.callWith_K (h₀ := X.base) I.ok.mod.kin hk (thn (ha pos pins s σ H _ I h) fun us s1 ⟨vs, H1, I1, r, q⟩ => ⟨I1.kIn, ?_⟩) he hpl
  exact run_fn F hr hb hd hx I1 r q
theorem pe_meth {pl : Sem Bool} (he : PE X o ta) (c : Cls X.K C) (hm : Meth X.K C m f) (F : FnOk X.prog X.w X.K X.mg X.base CX k f fd ps sp) (hr : Room k X.A) (hb : Binds X.K fd ps ds) (hd : Vals dvs ds) (hx : Passes CX X E) (ha : PA X (e :: es) t)
    (hst : starEach (e :: es) X.env = (false, eval e X.env) :: starEach es X.env := by rfl) (hpl : (backTo pos (starEach es X.env)).any (·.1) = false := by rfl)
    (ht : eval (.Call (.Attribute o m apos) (e :: es) [] pos) X.env = (do
      let ov ← eval o X.env
      standAt apos.atName
      let (f, first) ← holding [ov] (getMethod ov m pl)
      callWith pos f first (backTo pos (starEach (e :: es) X.env)) (backToKw pos (keywordEach [] X.env))) := by rfl) :
    PE X (.Call (.Attribute o m apos) (e :: es) [] pos) (tMeth C m sp dvs E ta t) := by
  intro pins s σ H Q I h
  refine PySem.W.methodCall_KW (pl := pl) (thn (he pins s σ H _ I h) fun u s1 ⟨x, H1, I1, rx, a, dx, fs, ex, ea, l, q⟩ => ?_) ht
  subst ex
  obtain rfl : u = Value.ref a := rx
  refine getmeth_ok I1 ea c hm l ?_
  refine PySem.W.callWith_K (first := [.ref a]) (h₀ := X.base) I.ok.mod.kin hm.kp (thn (ha pos pins s1 σ H1 _ I1 q) fun us s2 ⟨vs, H2, I2, r, q2⟩ => ⟨I2.kIn, ?_⟩) hst hpl
  exact run_fn (us := .ref a :: us) (vs := .ref a :: vs) F hr hb hd hx I2 (.cons rfl r) q2
theorem pe_meth0 {pl : Sem Bool} (he : PE X o ta) (c : Cls X.K C) (hm : Meth X.K C m f) (F : FnOk X.prog X.w X.K X.mg X.base CX k f fd ps sp) (hr : Room k X.A) (hb : Binds X.K fd ps ds) (hd : Vals dvs ds) (hx : Passes CX X E)
    (ht : eval (.Call (.Attribute o m apos) [] [] pos) X.env = (do
      let ov ← eval o X.env
      standAt apos.atName
      let (f, first) ← holding [ov] (getMethod ov m pl)
      callWith pos f first (backTo pos (starEach [] X.env)) (backToKw pos (keywordEach [] X.env))) := by rfl) :
    PE X (.Call (.Attribute o m apos) [] [] pos) (tMeth C m sp dvs E ta tNil) := by
  intro pins s σ H Q I h
  refine PySem.W.methodCall_KW (pl := pl) (thn (he pins s σ H _ I h) fun u s1 ⟨x, H1, I1, rx, a, dx, fs, ex, ea, l, q⟩ => ?_) ht
  subst ex
  obtain rfl : u = Value.ref a := rx
  refine getmeth_ok I1 ea c hm l ?_
  exact PySem.W.callWith_K0 (first := [.ref a]) I1.kIn hm.kp (run_fn (us := [.ref a]) (vs := [.ref a]) F hr hb hd hx I1 (.cons rfl .nil) q)
structure Mk (K : PySem.W.Frag) (C f : Addr) : Prop where
  makes : PySem.W.makesIn K C = true
  init : PySem.W.findIn K (.ref C) "__init__" = some (some (.ref f))
  fn : PySem.W.isFn K (.ref f) = true
  kp : PySem.W.keepIn K (.ref C) = true
theorem run_make {pins : List (Addr × Obj)} {σ : St} {H : Hp} {s : Shared} {Q : VK} {us : List Value} {vs : List V} (M : Mk X.K C f) (F : FnOk X.prog X.w X.K X.mg X.base CX k f fd ps sp) (hr : Room (k + 1) X.A) (hb : Binds X.K fd ps ds) (hd : Vals dvs ds)
    (hx : Passes CX X E) (I : Inv X pins σ H s) (r : Vals vs us)
    (h : ∀ x dx, H x = none → H dx = none → dx ≠ x → sp (.ref x :: (vs ++ dvs)) (upd (upd H dx (.own x)) x (.ins C dx [])) (fun v H2 => v = .non ∧ Q (.ref x) H2) E) :
    wpAny (model X.prog X.w) X.A (call (.ref C) us) (EP X pins σ Q) X.xe s := by
  have hq := h (s.heap.objs.size + 1) s.heap.objs.size (I.hok.fresh (Nat.le_succ _)) (I.hok.fresh (Nat.le_refl _)) (Nat.ne_of_lt (Nat.lt_succ_self _))
  have I2 := Inv.made (C := C) I
  have r2 : Vals (V.ref (s.heap.objs.size + 1) :: (vs ++ dvs)) (Value.ref (s.heap.objs.size + 1) :: (us ++ ds)) := .cons rfl (r.append hd)
  have hl : (Value.ref (s.heap.objs.size + 1) :: us ++ ds).length = ps.length := by
    have e := r2.length
    rw [F.len _ _ _ _ hq] at e
    exact e.symm
  refine wpAny_call (make_map (f := f) I.kIn M.makes M.init (beq_iff_eq.mp M.fn) (codeAny_mono (F.run _ X.stack _ _ ⟨Value.ref (s.heap.objs.size + 1) :: us, []⟩ (Value.ref (s.heap.objs.size + 1) :: (us ++ ds)) _ _ E (hr.make C us [])
    (I2.env0.make C us []) (hb _ (Value.ref (s.heap.objs.size + 1) :: us) I2.kIn hl) r2 hq) fun r s' hq' => ?_))
  cases r with
  | error e => exact hx pins σ _ _ e s' I2 hq'
  | ok fl =>
    cases fl with
    | ret u =>
      obtain ⟨v, H', I3, rv, ev, q3⟩ := I2.after hq'
      subst ev
      exact ⟨rv, ⟨V.ref (s.heap.objs.size + 1), H', I3, rfl, q3⟩⟩
    | next => exact False.elim hq'
    | brk => exact False.elim hq'
    | cont => exact False.elim hq'
theorem pe_make (M : Mk X.K C f) (F : FnOk X.prog X.w X.K X.mg X.base CX k f fd ps sp) (hr : Room (k + 1) X.A) (hg : Gl X x) (hm : X.mg x = some (.ref C)) (hb : Binds X.K fd ps ds) (hd : Vals dvs ds) (hx : Passes CX X E)
    (ha : PA X (e :: es) t) (hdb : (x == ("__debug__" : Str)) = false := by decide) (he : starEach (e :: es) X.env = (false, eval e X.env) :: starEach es X.env := by rfl) (hpl : (backTo pos (starEach es X.env)).any (·.1) = false := by rfl) :
    PE X (.Call (.Name x p) (e :: es) [] pos) (tMake C sp dvs E t) := by
  intro pins s σ H Q I h
  refine wpAny_Call_Name_kw (ld_glob I hg hm ?_ hdb)
  refine PySem.W.callWith_K (h₀ := X.base) I.ok.mod.kin M.kp (thn (ha pos pins s σ H _ I h) fun us s1 ⟨vs, H1, I1, r, q⟩ => ⟨I1.kIn, ?_⟩) he hpl
  exact run_make M F hr hb hd hx I1 r q
end
section
variable {X : Cx} {CX : CXT} {k : Nat} {f C : Addr} {fd : FuncData} {ps ks : List Str} {sp : Sp} {E : XK} {x m : Str} {p pos apos kpos : Pos} {e o : Expr} {es : List Expr} {kws : List Keyword} {te ta : TE} {t tk : TA} {nm : Option Str}
variable {g : List Value → List Value → List Value} {gV : List V → List V → List V}
end
structure FnScope (N P : List Str) (sc : Scope) : Prop where
  kind : sc.kind = .function
  co : sc.isCoroutine = false
  gen : sc.isGenerator = false
  nd : N.Nodup
  pre : N.take P.length = P
  par : ∀ x ∈ P, sc.names.lookup x = some .local ∨ sc.names.lookup x = some .cell
  nofree : ∀ y ∈ sc.names, y.2 ≠ .free
theorem bindL_out {kindOf : Str → Option NameKind} {x : Str} : ∀ {binds : List (Str × Value)} {m : Str → Option Value}, (∀ v, (x, v) ∉ binds) → bindL kindOf binds m x = m x
  | [], _, _ => rfl
  | (n, v) :: r, m, h => by
    unfold bindL
    rw [bindL_out fun w hw => h w (List.mem_cons_of_mem _ hw)]
    split
    · have : x ≠ n := by rintro rfl; exact h v List.mem_cons_self
      simp [this]
    · rfl
theorem bindC_out {kindOf : Str → Option NameKind} {x : Str} : ∀ {binds : List (Str × Value)} {m : Str → Option Value}, (∀ v, (x, v) ∉ binds) → bindC kindOf binds m x = m x
  | [], _, _ => rfl
  | (n, v) :: r, m, h => by
    unfold bindC
    rw [bindC_out fun w hw => h w (List.mem_cons_of_mem _ hw)]
    split
    · rfl
    · have : x ≠ n := by rintro rfl; exact h v List.mem_cons_self
      simp [this]
theorem bindL_get {kindOf : Str → Option NameKind} {x : Str} {v : Value} : ∀ {P : List Str} {vs : List Value} {i : Nat} {m : Str → Option Value}, P.Nodup → P[i]? = some x → vs[i]? = some v → kindOf x = some .local →
    bindL kindOf (P.zip vs) m x = some v
  | [], _, _, _, _, h, _, _ => by simp at h
  | _ :: _, [], _, _, _, _, h, _ => by simp at h
  | p :: P, w :: vs, 0, m, nd, h1, h2, hk => by
    simp at h1 h2; subst h1; subst h2
    show bindL kindOf ((p, w) :: P.zip vs) m p = _
    unfold bindL
    rw [bindL_out fun v hv => (List.nodup_cons.mp nd).1 (List.of_mem_zip hv).1, if_pos hk]
    simp
  | p :: P, w :: vs, i + 1, m, nd, h1, h2, hk => by
    show bindL kindOf ((p, w) :: P.zip vs) m x = _
    unfold bindL
    exact bindL_get (i := i) (List.nodup_cons.mp nd).2 (by simpa using h1) (by simpa using h2) hk
theorem bindC_get {kindOf : Str → Option NameKind} {x : Str} {v : Value} : ∀ {P : List Str} {vs : List Value} {i : Nat} {m : Str → Option Value}, P.Nodup → P[i]? = some x → vs[i]? = some v → kindOf x ≠ some .local →
    bindC kindOf (P.zip vs) m x = some v
  | [], _, _, _, _, h, _, _ => by simp at h
  | _ :: _, [], _, _, _, _, h, _ => by simp at h
  | p :: P, w :: vs, 0, m, nd, h1, h2, hk => by
    simp at h1 h2; subst h1; subst h2
    show bindC kindOf ((p, w) :: P.zip vs) m p = _
    unfold bindC
    rw [bindC_out fun v hv => (List.nodup_cons.mp nd).1 (List.of_mem_zip hv).1, if_neg hk]
    simp
  | p :: P, w :: vs, i + 1, m, nd, h1, h2, hk => by
    show bindC kindOf ((p, w) :: P.zip vs) m x = _
    unfold bindC
    exact bindC_get (i := i) (List.nodup_cons.mp nd).2 (by simpa using h1) (by simpa using h2) hk
def start (N : List Str) (vs : List V) : St := vs.map some ++ List.replicate (N.length - vs.length) none
def cxOf (CX : CXT) (P : Program) (w : World) (K : PySem.W.Frag) (mg : Str → Option Value) (base : Heap) (N : List Str) (qual : Str) (scope : Scope) (f : Addr) (cd : Value) (A : Around) (outer : List Env) (s : Shared) (H : Hp) (E : XK) : Cx where
  prog := P
  w := w
  K := K
  mg := mg
  base := base
  A := A.deeper (envOfC qual scope s.heap.objs.size f cd)
  N := N
  s₀ := s
  H₀ := H
  env := envOfC qual scope s.heap.objs.size f cd
  outer := outer
  stack := envOfC qual scope s.heap.objs.size f cd :: outer
  ex := []
  calm := true
  fn := fun _ => true
  pn := []
  xe := fun e s' => wpAny (model P w) (A.deeper (envOfC qual scope s.heap.objs.size f cd)) (leaving (envOfC qual scope s.heap.objs.size f cd) e) (fun _ s'' => CX outer H s E e s'') (fun e' s'' => CX outer H s E e' s'') s'
theorem cell_has {sc : Scope} {n : Nat} {x : Str} (h : sc.names.lookup x = some .cell) : ∃ c, (cellsFrom n sc.names []).lookup x = some c := by
  have q := PySem.W.cellsFrom_some sc.names n [] (.inl h)
  exact Option.isSome_iff_exists.mp q
theorem inv_start {CX : CXT} {P : Program} {w : World} {K : PySem.W.Frag} {mg : Str → Option Value} {base : Heap} {N ps : List Str} {qual : Str} {scope : Scope} {f : Addr} {cd : Value} {A : Around} {outer : List Env} {s s1 : Shared} {H : Hp} {E : XK} {us : List Value} {vs : List V}
    (S : FnScope N ps scope) (hd : A.handled = none) (e0 : Env0 P w K mg base A outer s H) (hl : vs.length = ps.length) (r : Vals vs us)
    (x : InCallC s s.heap.objs.size (bindL (envOfC qual scope s.heap.objs.size f cd).kindOf (ps.zip us) fun _ => none) (cellsFrom (s.heap.objs.size + 1) scope.names []) (bindC (envOfC qual scope s.heap.objs.size f cd).kindOf (ps.zip us) fun _ => none) s1) :
    Inv (cxOf CX P w K mg base N qual scope f cd A outer s H E) [] (start N vs) H s1 := by
  have hpl : ps.length ≤ N.length := by have := congrArg List.length S.pre; rw [List.length_take] at this; omega
  obtain ⟨h1, tk, rfl, hk⟩ := x.done
  have noA : ∀ b : Addr, b ∉ (cxOf CX P w K mg base N qual scope f cd A outer s H E).ex := fun b z => absurd (show b ∈ ([] : List Addr) from z) (by simp)
  refine ⟨⟨e0.mod, S.kind, rfl, rfl, Nat.le_refl _, fun y z c h1 h2 => ?_, fun y hy => ?_, fun y c _ h => ?_, fun _ => hd, Around.frames_deeper e0.frames, .inr ⟨rfl, rfl⟩, fun b z => absurd z (noA b), e0.bs, e0.bsz, fun b _ _ => noA b, fun b z => absurd z (noA b), e0.funs, e0.frf⟩,
    rfl, e0.bare, Un.kept hk, ⟨_, x.toInCall.ns, fun i y v h1 h2 h3 => ?_⟩, fun y c h => ⟨_, x.cell y c h⟩, e0.hok.fresh (Nat.le_refl _), fun y c h => ?_, fun p hp => absurd (show p ∈ ([] : List (Addr × Obj)) from hp) (by simp), e0.hok.kept hk, ?_⟩
  · exact name_of_addr x.apart (PySem.mem_of_lookup h1) (PySem.mem_of_lookup h2)
  · have hy : scope.names.lookup y = some .cell ∨ scope.names.lookup y = some .free := hy
    rcases hy with hy | hy
    · exact cell_has hy
    · exact absurd rfl (S.nofree _ (PySem.mem_of_lookup hy))
  · exact Nat.le_of_lt (x.above y c (PySem.mem_of_lookup h))
  · have hi : i < vs.length := by
      unfold start at h2
      by_cases hi : i < vs.length
      · exact hi
      · rw [List.getElem?_append_right (by simpa using hi)] at h2
        rw [List.getElem?_replicate] at h2
        split at h2 <;> cases h2
    have ha : vs[i]? = some v := by
      unfold start at h2
      rw [List.getElem?_append_left (by simpa using hi), List.getElem?_map] at h2
      cases e : vs[i]? with
      | none => rw [e] at h2; cases h2
      | some a => rw [e] at h2; cases h2; rfl
    obtain ⟨u, hu, rv⟩ := r.get ha
    have hp : ps[i]? = some y := by
      rw [← S.pre, List.getElem?_take_of_lt (by omega)]; exact h1
    have ndP : ps.Nodup := by rw [← S.pre]; exact S.nd.sublist (List.take_sublist _ _)
    refine ⟨u, rv, ?_⟩
    rcases S.par y (List.mem_of_getElem? hp) with k | k
    · exact .inl ⟨k, bindL_get ndP hp hu k⟩
    · obtain ⟨c, e⟩ := cell_has (n := s.heap.objs.size + 1) k
      refine .inr ⟨.inl k, c, e, ?_⟩
      have q := x.cell y c e
      rw [bindC_get ndP hp hu (by show scope.names.lookup y ≠ _; rw [k]; decide)] at q
      exact q
  · exact e0.hok.fresh (Nat.le_of_lt (x.above y c (PySem.mem_of_lookup h)))
  · unfold start
    show _ = N.length
    rw [List.length_append, List.length_map, List.length_replicate]
    omega
theorem fn_of {CX : CXT} {P : Program} {w : World} {K : PySem.W.Frag} {mg : Str → Option Value} {base : Heap} {k : Nat} {f : Addr} {name qual : Str} {params : Arguments} {body : List Stmt} {scope : Scope} {dV kV doc pm cdv ct oc : Value} {an od : Option Addr}
    {osl : Array (Option Value)} {N ps : List Str} {sp : Sp} (lk : K.lookup f = some ⟨oc, od, .func (PySem.W.fnOf name qual params body scope dV kV doc pm an cdv ct), osl⟩) (hcd : PySem.W.codeIn K cdv qual = true) (S : FnScope N ps scope)
    (len : ∀ vs H Q E, sp vs H Q E → vs.length = ps.length)
    (hbody : ∀ (A : Around) (outer : List Env) (s : Shared) (H : Hp) (vs : List V) (Q : VK) (E : XK), Room k (A.deeper (envOfC qual scope s.heap.objs.size f cdv)) → sp vs H Q E →
      ∃ t, PSs (cxOf CX P w K mg base N qual scope f cdv A outer s H E) body t ∧ t { nx := fun _ H' => Q .non H', rt := Q } (start N vs) H) :
    FnOk P w K mg base CX (k + 1) f (PySem.W.fnOf name qual params body scope dV kV doc pm an cdv ct) ps sp := by
  refine ⟨len, fun A outer s H args us vs Q E hr e0 hb r hsp => ?_⟩
  have hl := len _ _ _ _ hsp
  have KX : K.In s.heap := e0.mod.kin.keeps fun b o e => (e0.bs b o e).1
  have lim : s.heap.NoLimit := e0.mod.nolimit.keeps fun b o e => (e0.bs b o e).1
  have hkind : ∀ y ∈ ps.zip us, scope.names.lookup y.1 = some .local ∨ (scope.names.lookup y.1 = some .cell ∧ ((cellsFrom (s.heap.objs.size + 1) scope.names []).lookup y.1).isSome = true) := fun ⟨n, v⟩ hy => by
    rcases S.par n (List.of_mem_zip hy).1 with q | q
    · exact .inl q
    · exact .inr ⟨q, PySem.W.cellsFrom_some _ _ _ (.inl q)⟩
  refine codeAny_call_function hr.depth (KX _ _ lk) rfl S.co S.gen rfl (PySem.W.codeRec_of KX hcd) (hb _ _ _ _ ?_)
  refine wpAny_newFunctionEnv_cells S.kind hkind fun env he s1 x => ?_
  subst he
  refine ⟨lim.keeps x.toInCall.keep, codeAny_func ?_⟩
  obtain ⟨t, ht, hq⟩ := hbody A outer s H vs Q E (hr.deeper _) hsp
  have I : Inv (cxOf CX P w K mg base N qual scope f cdv A outer s H E) [] (start N vs) H s1 := inv_start S hr.hd e0 hl r x
  refine wpAny_mono (ht [] s1 (start N vs) H _ I hq) (fun fl s' hs => ?_) fun e s' hs => hs
  have fin : ∀ {σ' : St} {H' : Hp} {v : V} {u : Value}, Inv (cxOf CX P w K mg base N qual scope f cdv A outer s H E) [] σ' H' s' → RelV v u → Q v H' → CE outer P w H s Q u s' :=
    fun {σ' H' v u} J rv q => ⟨v, H', J.os, J.bare, J.base, J.hok, rv, q⟩
  cases fl with
  | ret u =>
    obtain ⟨v, σ', H', J, rv, q⟩ := hs
    exact fin J rv q
  | next =>
    obtain ⟨σ', H', J, q⟩ := hs
    exact fin (v := V.non) (u := Value.none) J rfl q
  | brk =>
    obtain ⟨_, _, _, q⟩ := hs
    exact False.elim q
  | cont =>
    obtain ⟨_, _, _, q⟩ := hs
    exact False.elim q
end L2
namespace L2
open PySem PySem.Spec PyProof.Rows
section
variable {X : Cx} {x : Str} {p pos : Pos} {e : Expr} {es : List Expr} {t : TA} {id T : String} {r : List V → Hp → VK → Prop}
def tCB (r : List V → Hp → VK → Prop) (t : TA) : TE := fun σ H Q => t σ H fun vs H1 => r vs H1 Q
theorem pe_callB (hc : CallR X (.builtin id) r) (hg : Gl X x) (hm : X.mg x = none) (hv : bootBuiltins x = some (.builtin id)) (ha : PA X (e :: es) t) (hn : x ≠ "__name__" := by decide) (hdb : (x == ("__debug__" : Str)) = false := by decide)
    (he : starEach (e :: es) X.env = (false, eval e X.env) :: starEach es X.env := by rfl) (hpl : (backTo pos (starEach es X.env)).any (·.1) = false := by rfl) : PE X (.Call (.Name x p) (e :: es) [] pos) (tCB r t) := by
  intro pins s σ H Q I h
  refine wpAny_Call_Name_kw (ld_blt I hg hm hv ?_ hn hdb)
  exact PyProof.Rows.callWith_builtin1 (thn (ha pos pins s σ H _ I h) fun us s1 ⟨vs, H1, I1, r1, q1⟩ => hc pins s1 σ H1 vs us Q I1 r1 q1) he hpl
theorem pe_callTy (hc : CallR X (.type T) r) (hg : Gl X x) (hm : X.mg x = none) (hv : bootBuiltins x = some (.type T)) (ha : PA X (e :: es) t) (hn : x ≠ "__name__" := by decide) (hdb : (x == ("__debug__" : Str)) = false := by decide)
    (he : starEach (e :: es) X.env = (false, eval e X.env) :: starEach es X.env := by rfl) (hpl : (backTo pos (starEach es X.env)).any (·.1) = false := by rfl) : PE X (.Call (.Name x p) (e :: es) [] pos) (tCB r t) := by
  intro pins s σ H Q I h
  refine wpAny_Call_Name_kw (ld_blt I hg hm hv ?_ hn hdb)
  exact PyProof.Rows.callWith_type1 (thn (ha pos pins s σ H _ I h) fun us s1 ⟨vs, H1, I1, r1, q1⟩ => hc pins s1 σ H1 vs us Q I1 r1 q1) he hpl
end
end L2
namespace HT
open PySem PyProof.Rows
section
open PySem.SeqAt
open PySem.AutoSeq1 (wpAny_loadPart')
open PySem.MeetsSeq PySem.MeetsSeq2 PySem.MeetsSeq3
end
section
variable {prog : Program} {w : World} {A : Around} {E : Value → Shared → Prop} {s : Shared}
def sIx (n d : Nat) : Option Int → Nat
  | none => d
  | some v => if v < 0 then (v + (n : Int)).toNat else min v.toNat n
theorem sIx_none (n d : Nat) : sIx n d none = d := rfl
theorem sIx_nat (n d k : Nat) : sIx n d (some (k : Int)) = min k n := by
  show (if (k : Int) < 0 then ((k : Int) + (n : Int)).toNat else min (k : Int).toNat n) = min k n
  rw [if_neg (by omega), Int.toNat_natCast]
theorem clip_eq (v : Int) (n d : Nat) : (if v < 0 then max (v + (n : Int)) 0 else min v (n : Int)) = ((sIx n d (some v) : Nat) : Int) := by
  show (if v < 0 then max (v + (n : Int)) 0 else min v (n : Int)) = (((if v < 0 then (v + (n : Int)).toNat else min v.toNat n) : Nat) : Int)
  by_cases hv : v < 0
  · simp only [if_pos hv]; omega
  · simp only [if_neg hv]; omega
end
end HT
namespace L2
open PySem PySem.Spec PyProof.Rows
abbrev TO := St → Hp → (Option Int → Hp → Prop) → Prop
def PO (X : Cx) (e : Option Expr) (t : TO) : Prop :=
  ∀ (pins : List (Addr × Obj)) (s : Shared) (σ : St) (H : Hp) (Q : Option Int → Hp → Prop), Inv X pins σ H s → t σ H Q →
    wpAny (model X.prog X.w) X.A (evalPart e X.env) (fun u s' => ∃ o H', Inv X pins σ H' s' ∧ IsPart u o ∧ Q o H') X.xe s
def tNoPart : TO := fun _ H Q => Q none H
def tPart (t : TE) : TO := fun σ H Q => t σ H fun x H1 => ∃ i, x = .int i ∧ Q (some i) H1
section
variable {X : Cx} {e : Expr} {te : TE} {lo hi : Option Expr} {tl th : TO} {pos p2 : Pos}
theorem po_none : PO X none tNoPart := by
  intro pins s σ H Q I h
  rw [evalPart_none]
  exact wpAny_pure ⟨none, H, I, .none, h⟩
theorem po_some (h : PE X e te) : PO X (some e) (tPart te) := by
  intro pins s σ H Q I hw
  rw [evalPart_some]
  refine thn (h pins s σ H _ I hw) fun u s1 ⟨x, H1, I1, r1, q1⟩ => ?_
  obtain ⟨i, rfl, q⟩ := q1
  obtain ⟨t, rfl⟩ := r1
  exact ⟨some i, H1, I1, .int i t, q⟩
def SlR (X : Cx) (r : V → Option Int → Option Int → Hp → VK → Prop) : Prop :=
  ∀ (pins : List (Addr × Obj)) (s : Shared) (σ : St) (H : Hp) (x : V) (v vl vu : Value) (lo hi : Option Int) (sl : Addr) (Q : VK), Inv X pins σ H s → RelV x v → s.heap.IsSliceOf sl vl vu .none → IsPart vl lo → IsPart vu hi → r x lo hi H Q →
    ∃ T id, typeLookup (.type T) "__getitem__" = pure (some (.builtin id)) ∧ s.TypeIs v T ∧ wpAny (model X.prog X.w) X.A (getItem v (.ref sl)) (EP X pins σ Q) X.xe s
def tSl (r : V → Option Int → Option Int → Hp → VK → Prop) (te : TE) (tl th : TO) : TE := fun σ H Q => te σ H fun x H1 => tl σ H1 fun l H2 => th σ H2 fun u H3 => r x l u H3 Q
theorem pe_slice {r : V → Option Int → Option Int → Hp → VK → Prop} (hr : SlR X r) (he : PE X e te) (hl : PO X lo tl) (hu : PO X hi th) : PE X (.Subscript e (.Slice lo hi none p2) pos) (tSl r te tl th) := by
  intro pins s σ H Q I h
  refine Subscript_ (thn (he pins s σ H _ I h) fun v s1 ⟨x, H1, I1, r1, q1⟩ => ?_)
  refine wpAny_Slice (thn (hl pins s1 σ H1 _ I1 q1) fun vl s2 ⟨l, H2, I2, pl, q2⟩ => thn (hu pins s2 σ H2 _ I2 q2) fun vu s3 ⟨u, H3, I3, pu, q3⟩ => ?_)
  rw [evalPart_none]
  refine wpAny_pure ?_
  have I4 : Inv X pins σ H3 { s3 with heap := s3.heap.push { cls := .type "slice", data := .fields #[vl, vu, .none] } } := I3.kept (t' := s3.toks) fun b ob q => Heap.get?_push_of_some _ q
  obtain ⟨T, id, hT, ht, hg⟩ := hr pins { s3 with heap := s3.heap.push { cls := .type "slice", data := .fields #[vl, vu, .none] } } σ H3 x v vl vu l u s3.heap.objs.size Q I4 r1 (Heap.IsSliceOf.new ..) pl pu q3
  show wpAny (model X.prog X.w) X.A (subscriptTail e (.Slice lo hi none p2) v (.ref s3.heap.objs.size)) (EP X pins σ Q) X.xe { s3 with heap := s3.heap.push { cls := .type "slice", data := .fields #[vl, vu, .none] } }
  exact tail_any (ops := [.ref s3.heap.objs.size, v]) ht hT hg (by with_unfolding_all rfl)
def cutV (xs : List V) (lo hi : Option Int) : List V := (xs.drop (HT.sIx xs.length 0 lo)).take (HT.sIx xs.length xs.length hi - HT.sIx xs.length 0 lo)
theorem cutV_length (xs : List V) (lo hi : Option Int) : (cutV xs lo hi).length ≤ xs.length := by
  unfold cutV
  rw [List.length_take, List.length_drop]
  omega
end
end L2
namespace L2
open PySem PySem.Spec PyProof.Rows
def ixN (n : Nat) (i : Int) : Option Nat := if 0 ≤ i then (if i < n then some i.toNat else none) else if -(n : Int) ≤ i then some (i + n).toNat else none
def atI {α : Type} (xs : List α) (i : Int) : Option α := (ixN xs.length i).bind fun j => xs[j]?
theorem ixN_seq {n : Nat} {i : Int} {j : Nat} (h : ixN n i = some j) : seqIndex? i n = some j ∧ j < n ∧ -(n : Int) ≤ i ∧ i < n := by
  unfold ixN at h
  by_cases h0 : 0 ≤ i
  · rw [if_pos h0] at h
    by_cases h1 : i < n
    · rw [if_pos h1] at h
      have e : i.toNat = j := Option.some.inj h
      exact ⟨by rw [seqIndex_of h0 h1, e], by omega, by omega, h1⟩
    · rw [if_neg h1] at h; cases h
  · rw [if_neg h0] at h
    by_cases h1 : -(n : Int) ≤ i
    · rw [if_pos h1] at h
      have e : (i + n).toNat = j := Option.some.inj h
      exact ⟨by rw [seqIndex_neg (by omega) h1, e], by omega, h1, by omega⟩
    · rw [if_neg h1] at h; cases h
theorem atI_get {α : Type} {xs : List α} {i : Int} {v : α} (h : atI xs i = some v) : ∃ j, seqIndex? i xs.length = some j ∧ xs[j]? = some v ∧ j < xs.length ∧ -(xs.length : Int) ≤ i ∧ i < xs.length := by
  unfold atI at h
  cases e : ixN xs.length i with
  | none => rw [e] at h; cases h
  | some j =>
    rw [e] at h
    obtain ⟨h1, h2, h3, h4⟩ := ixN_seq e
    exact ⟨j, h1, h, h2, h3, h4⟩
theorem atI_nat {α : Type} {xs : List α} {j : Nat} {v : α} (h : xs[j]? = some v) : atI xs (j : Int) = some v := by
  have hj : j < xs.length := (List.getElem?_eq_some_iff.mp h).1
  have e : ixN xs.length (j : Int) = some j := by
    unfold ixN
    rw [if_pos (by omega), if_pos (by omega)]; simp
  unfold atI; rw [e]; exact h
def PlainIx (b : Expr) : Prop := ∀ o i, subscripted b false o i = operate [o, i] (getItem o i)
def IxR (X : Cx) (r : R2) : Prop :=
  ∀ (value slice : Expr) (pins : List (Addr × Obj)) (s : Shared) (σ : St) (H : Hp) (x y : V) (v u : Value) (Q : VK), Inv X pins σ H s → RelV x v → RelV y u → r x y H Q →
    subscripted slice false v u = operate [v, u] (getItem v u) → wpAny (model X.prog X.w) X.A (subscriptTail value slice v u) (EP X pins σ Q) X.xe s
def MtR (X : Cx) (id : String) (r : V → List V → Hp → VK → Prop) : Prop :=
  ∀ (pins : List (Addr × Obj)) (s : Shared) (σ : St) (H : Hp) (x : V) (xs : List V) (v : Value) (us : List Value) (Q : VK), Inv X pins σ H s → RelV x v → Vals xs us → r x xs H Q →
    wpAny (model X.prog X.w) X.A (call (.builtin id) (v :: us)) (EP X pins σ Q) X.xe s
section
variable {X : Cx} {a b : Expr} {ta tb : TE} {pos : Pos}
theorem pe_ix {r : R2} (hr : IxR X r) (ha : PE X a ta) (hb : PE X b tb) (hs : PlainIx b) : PE X (.Subscript a b pos) (tOp r ta tb) := by
  intro pins s σ H Q I h
  exact Subscript_ (binT ha hb I h fun v u s2 x y H2 I2 rx ry q => hr a b pins s2 σ H2 x y v u Q I2 rx ry q (hs _ _))
def rIxL (K : PySem.W.Frag) : R2 := fun x y H Q => ∃ p xs i v, x = .ref p ∧ y = .int i ∧ SqL K H p xs ∧ atI xs i = some v ∧ Q v H
def rIxT (K : PySem.W.Frag) : R2 := fun x y H Q => ∃ p xs i v, x = .ref p ∧ y = .int i ∧ SqT K H p xs ∧ atI xs i = some v ∧ Q v H
def rIxS : R2 := fun x y H Q => ∃ z i c, x = .str z ∧ y = .int i ∧ z.length ≤ sizeLine ∧ atI z.cps.toList i = some c ∧ Q (.str ⟨#[c]⟩) H
theorem ix_list : IxR X (rIxL X.K) := by
  intro value slice pins s σ H x y v u Q I rx ry h hs
  obtain ⟨p, xs, i, z, rfl, rfl, hq, he, q⟩ := h
  cases rx
  obtain ⟨t, rfl⟩ := ry
  obtain ⟨its, r, pl, hz⟩ := I.list hq
  obtain ⟨j, h1, h2, h3, h4, h5⟩ := atI_get he
  obtain ⟨w, ew, rw'⟩ := r.get h2
  have hl := r.length
  have hn := line63
  have fin : EP X pins σ Q w s := ⟨z, H, I, rw', q⟩
  by_cases h0 : 0 ≤ i
  · have hj : i.toNat = j := by
      rw [seqIndex_of h0 h5] at h1
      exact Option.some.inj h1
    exact item_listR pl.isList h0 (by omega) (by rw [hj]; simpa using ew) fin hs
  · have hj : (i + (its.toArray.size : Int)).toNat = j := by
      rw [seqIndex_neg (by omega) h4] at h1
      rw [List.size_toArray, ← hl]
      exact Option.some.inj h1
    exact subscriptTail_builtinR (x := w) pl.isList.typeIs slot_list_getitem.lookup
      (wpAny_getItem_list_neg (Q := fun r s' => r = w ∧ EP X pins σ Q r s') pl.isList (by omega) (by rw [List.size_toArray] <;> omega) (by omega) (by rw [hj]; simpa using ew) ⟨rfl, fin⟩) hs
theorem ix_tup : IxR X (rIxT X.K) := by
  intro value slice pins s σ H x y v u Q I rx ry h hs
  obtain ⟨p, xs, i, z, rfl, rfl, hq, he, q⟩ := h
  cases rx
  obtain ⟨t, rfl⟩ := ry
  obtain ⟨its, r, pl, hz⟩ := I.tuple hq
  obtain ⟨j, h1, h2, h3, h4, h5⟩ := atI_get he
  obtain ⟨w, ew, rw'⟩ := r.get h2
  have hl := r.length
  have hn := line63
  have fin : EP X pins σ Q w s := ⟨z, H, I, rw', q⟩
  exact subscriptTail_builtinR (x := w) pl.typeIs slot_tuple_getitem.lookup
    (getItem_tuple (j := j) (Q := fun r s' => r = w ∧ EP X pins σ Q r s') pl (by omega) (by omega) (by rw [List.size_toArray, ← hl]; exact h1) (by simpa using ew) ⟨rfl, fin⟩) hs
theorem ix_str : IxR X rIxS := by
  intro value slice pins s σ H x y v u Q I rx ry h hs
  obtain ⟨z, i, c, rfl, rfl, hz, he, q⟩ := h
  obtain ⟨t, rfl⟩ := rx
  obtain ⟨t', rfl⟩ := ry
  obtain ⟨j, h1, h2, h3, h4, h5⟩ := atI_get he
  have hl : z.cps.toList.length = z.length := by simp [Str.length]
  rw [hl] at h1 h4 h5
  have hn := line63
  exact tail_any (typeIs_str s z t) slot_str_getitem.lookup (getItem_str (c := c) (by
    have e1 : decide (i < -(2 ^ 63 : Int)) = false := decide_eq_false (by omega)
    have e2 : decide (i ≥ 2 ^ 63) = false := decide_eq_false (by omega)
    rw [e1, e2, Bool.or_false]) (by rw [h1]; simpa using h2) ⟨.str ⟨#[c]⟩, H, I.tok _, ⟨_, rfl⟩, q⟩) hs
theorem sb_some (i : Int) (n d : Nat) : max 0 (min (if i < 0 then i + (n : Int) else i) (n : Int)) = ((HT.sIx n d (some i) : Nat) : Int) := by
  rw [← HT.clip_eq]
  by_cases h : i < 0
  · rw [if_pos h, if_pos h, Int.max_comm, Int.min_eq_left (Int.add_le_of_le_sub_right (by rw [Int.sub_self]; exact Int.le_of_lt h))]
  · rw [if_neg h, if_neg h]
    exact Int.max_eq_right (Int.le_min.mpr ⟨Int.not_lt.mp h, Int.natCast_nonneg n⟩)
theorem slice_bounds (lo hi : Option Int) (n : Nat) : (sliceBounds lo hi none n).1 = ((HT.sIx n 0 lo : Nat) : Int) ∧ (sliceBounds lo hi none n).2.1 = ((HT.sIx n n hi : Nat) : Int) ∧ (sliceBounds lo hi none n).2.2 = 1 := by
  refine ⟨?_, ?_, rfl⟩
  · cases lo with
    | none => rfl
    | some i => exact sb_some i n 0
  · cases hi with
    | none => rfl
    | some i => exact sb_some i n n
theorem slicePick_cut (its : List Value) (lo hi : Option Int) : slicePick its.toArray lo hi none = ((its.drop (HT.sIx its.length 0 lo)).take (HT.sIx its.length its.length hi - HT.sIx its.length 0 lo)).toArray := by
  obtain ⟨h1, h2, h3⟩ := slice_bounds lo hi its.toArray.size
  unfold slicePick
  rw [h1, h2, h3]
  simp only [sliceRange_one, pick_run, List.size_toArray] <;> rfl
def rSlL (K : PySem.W.Frag) : V → Option Int → Option Int → Hp → VK → Prop := fun x lo hi H Q => ∃ a xs, x = .ref a ∧ SqL K H a xs ∧ ∀ p, H p = none → Q (.ref p) (upd H p (.lst (cutV xs lo hi)))
theorem sl_list : SlR X (rSlL X.K) := by
  intro pins s σ H x v vl vu lo hi sl Q I rx hs pl pu h
  obtain ⟨a, xs, rfl, hx, q⟩ := h
  cases rx
  obtain ⟨its, r, ht, hz⟩ := I.list hx
  have hlen := r.length
  refine ⟨"list", _, slot_list_getitem.lookup, ht.isList.typeIs, ?_⟩
  refine wpAny_getItem_list_slice ht.isList hs pl pu .none (by simp) ?_ (by rw [List.size_toArray] <;> omega)
  rw [slicePick_cut, ← hlen]
  refine ⟨.ref s.heap.objs.size, _, I.laid (t' := s.toks) (o := .lst (cutV xs lo hi)) (fun b ob q => Heap.get?_push_of_some _ q) (Nat.le_refl _) ?_, rfl, q _ (I.hok.fresh (Nat.le_refl _))⟩
  exact ⟨Nat.le_trans (cutV_length xs lo hi) hz, _, 0, (r.drop (HT.sIx xs.length 0 lo)).take (HT.sIx xs.length xs.length hi - HT.sIx xs.length 0 lo), Heap.get?_push_size _ rfl⟩
theorem call_len_seq : CallR X (.builtin "len") (fun xs H Q => ∃ p ys, xs = [.ref p] ∧ (SqL X.K H p ys ∨ SqT X.K H p ys) ∧ Q (.int ys.length) H) := by
  intro pins s σ H xs us Q I r h
  obtain ⟨p, ys, rfl, hq, q⟩ := h
  obtain ⟨u, rfl, rx⟩ := vals1 r
  cases rx
  have hn := line63
  rcases hq with hq | hq
  · obtain ⟨its, r', pl, hz⟩ := I.list hq
    have hlen := r'.length
    exact Calls.call_len_list pl.isList (by simp only [List.size_toArray] <;> omega) ⟨.int ys.length, H, I.tok _, ⟨s.toks + 1, by rw [List.size_toArray, hlen]⟩, q⟩
  · obtain ⟨its, r', pl, hz⟩ := I.tuple hq
    have hlen := r'.length
    exact len_tuple pl (by simp only [List.size_toArray] <;> omega) ⟨.int ys.length, H, I.tok _, ⟨s.toks + 1, by rw [List.size_toArray, hlen]⟩, q⟩
theorem call_len_str : CallR X (.builtin "len") (fun xs H Q => ∃ z, xs = [.str z] ∧ z.length ≤ sizeLine ∧ Q (.int z.length) H) := by
  intro pins s σ H xs us Q I r h
  obtain ⟨z, rfl, hz, q⟩ := h
  obtain ⟨u, rfl, t, rfl⟩ := vals1 r
  have hn := line63
  exact len_str (by omega) ⟨.int z.length, H, I.tok _, ⟨_, rfl⟩, q⟩
theorem call_list_of : CallR X (.type "list") (fun xs H Q => ∃ p ys, xs = [.ref p] ∧ (SqL X.K H p ys ∨ SqT X.K H p ys) ∧ ∀ l, H l = none → Q (.ref l) (upd H l (.lst ys))) := by
  intro pins s σ H xs us Q I r h
  obtain ⟨p, ys, rfl, hq, q⟩ := h
  obtain ⟨u, rfl, rx⟩ := vals1 r
  cases rx
  have fin : ∀ (its : List Value), Vals ys its → ys.length ≤ sizeLine → ∀ (h' : Heap) (c' : Nat), (∀ b o', s.heap.get? b = some o' → h'.get? b = some o') →
      h'.get? s.heap.objs.size = some { cls := .type "list", dict := none, data := .seq its.toArray c', slots := #[] } → EP X pins σ Q (.ref s.heap.objs.size) { s with heap := h' } := fun its r' hz h' c' kp e =>
    ⟨.ref s.heap.objs.size, _, I.laid (t' := s.toks) kp (Nat.le_refl _) (show ObjOk X.prog X.w _ h' _ (.lst ys) from ⟨hz, its, c', r', e⟩), rfl, q _ (I.hok.fresh (Nat.le_refl _))⟩
  rcases hq with hq | hq
  · obtain ⟨its, r', pl, hz⟩ := I.list hq
    have hlen := r'.length
    obtain ⟨o, ho, hc, n, hd⟩ := pl.isList
    exact call_list_seq p (.inl rfl) ho hc hd (fun h' c' kp e => fin its r' hz h' c' kp e) (by simp only [List.size_toArray] <;> omega)
  · obtain ⟨its, r', pl, hz⟩ := I.tuple hq
    have hlen := r'.length
    obtain ⟨o, ho, hc, n, hd⟩ := pl
    exact call_list_seq p (.inr rfl) ho hc hd (fun h' c' kp e => fin its r' hz h' c' kp e) (by simp only [List.size_toArray] <;> omega)
def tyV (K : PySem.W.Frag) (T : String) (x : V) (H : Hp) : Prop := match x with
  | .str _ => T = "str"
  | .int _ => T = "int"
  | .ref p => (T = "list" ∧ ∃ xs, SqL K H p xs) ∨ (T = "tuple" ∧ ∃ o, K.lookup p = some o ∧ o.cls = .type "tuple" ∧ o.dict = none) ∨
      (T = "dict" ∧ ((∃ kvs, H p = some (.dK kvs)) ∨ ∃ kvs, H p = some (.dT kvs))) ∨ (T = "set" ∧ ∃ S n, H p = some (.set S n))
  | _ => False
theorem tyV_is {pins : List (Addr × Obj)} {σ : St} {H : Hp} {s : Shared} {T : String} {x : V} {v : Value} (I : Inv X pins σ H s) (r : RelV x v) (ty : tyV X.K T x H) :
    s.TypeIs v T ∧ ∀ a, v = .ref a → ∃ ob, s.heap.get? a = some ob ∧ ob.dict = none := by
  cases x with
  | str z =>
    obtain ⟨t, rfl⟩ := r
    cases (show T = "str" from ty)
    exact ⟨typeIs_str s z t, fun _ e => nomatch e⟩
  | int i =>
    obtain ⟨t, rfl⟩ := r
    cases (show T = "int" from ty)
    exact ⟨typeIs_int s i t, fun _ e => nomatch e⟩
  | ref p =>
    cases r
    rcases ty with ⟨rfl, xs, hq⟩ | ⟨rfl, o, hk, hc, hd⟩ | ⟨rfl, hk⟩ | ⟨rfl, S, n, hk⟩
    · obtain ⟨its, _, pl, _⟩ := I.list hq
      refine ⟨pl.isList.typeIs, fun a e => ?_⟩
      cases e
      obtain ⟨o, n, e, c, hd, _⟩ := pl
      exact ⟨o, e, hd⟩
    · refine ⟨⟨o, I.kIn p o hk, hc⟩, fun a e => ?_⟩
      cases e
      exact ⟨o, I.kIn _ o hk, hd⟩
    · have z : ∃ o, s.heap.get? p = some o ∧ o.ExactDict := by
        rcases hk with ⟨kvs, hk⟩ | ⟨kvs, hk⟩
        · obtain ⟨_, _, _, _, o, _, _, e, ex, _⟩ := I.hok p _ hk
          exact ⟨o, e, ex⟩
        · obtain ⟨_, _, _, _, o, _, _, e, ex, _⟩ := I.hok p _ hk
          exact ⟨o, e, ex⟩
      obtain ⟨o, e, ex⟩ := z
      refine ⟨⟨o, e, ex.1⟩, fun a e2 => ?_⟩
      cases e2
      exact ⟨o, e, ex.2.1⟩
    · obtain ⟨o, _, _, _, e, ex, _⟩ := I.hok p _ hk
      refine ⟨⟨o, e, ex.1⟩, fun a e2 => ?_⟩
      cases e2
      exact ⟨o, e, ex.2.1⟩
  | _ => exact False.elim ty
def tBM (K : PySem.W.Frag) (T : String) (r : V → List V → Hp → VK → Prop) (to : TE) (t : TA) : TE := fun σ H Q => to σ H fun x H1 => tyV K T x H1 ∧ t σ H1 fun xs H2 => r x xs H2 Q
variable {o e : Expr} {es : List Expr} {to : TE} {t : TA} {name : Str} {apos cpos : Pos} {T id : String} {r : V → List V → Hp → VK → Prop}
theorem pe_bm (pa : PlainAttrs T) (slot : Slot T name id) (hty : typeOf (.builtin id) = pure (.type "method_descriptor")) (hm : MtR X id r) (ho : PE X o to) (ha : PA X (e :: es) t)
    (hbase : attributeBase o name X.env (eval o X.env) = eval o X.env := by rfl)
    (hfew : ((backTo cpos (starEach (e :: es) X.env)).all (fun x => !x.1) && (backToKw cpos (keywordEach [] X.env)).all (fun x => x.1.isSome)
      && decide ((e :: es).length + ([] : List Keyword).length + (if ([] : List Keyword).isEmpty then 0 else 1) < 30)) = true := by rfl)
    (hline : (apos.endLine == cpos.line) = true := by rfl) (hs : starEach (e :: es) X.env = (false, eval e X.env) :: starEach es X.env := by rfl) (hplain : (backTo cpos (starEach es X.env)).any (·.1) = false := by rfl) :
    PE X (.Call (.Attribute o name apos) (e :: es) [] cpos) (tBM X.K T r to t) := by
  intro pins s σ H Q I h
  refine wpAny_Call_method_late hbase hfew hline rfl (thn (ho pins s σ H _ I h) fun v s1 ⟨x, H1, I1, r1, ty, q1⟩ => ?_)
  obtain ⟨h1, h2⟩ := tyV_is I1 r1 ty
  refine ⟨T, id, pa, slot, hty, h1, h2, ?_⟩
  have hA := ha cpos pins s1 σ H1 _ I1 q1
  rw [hs] at hA ⊢
  refine Calls.callWith_builtin (by show (false || (backTo cpos (starEach es X.env)).any (·.1)) = false; rw [hplain] <;> rfl) (Calls.evalArgs_plain ?_)
  exact thn hA fun us s2 ⟨vs, H2, I2, r2, q2⟩ => hm pins s2 σ H2 x vs v us Q I2 r1 r2 q2
/- xs.append(e), list.index on a module's tuple .. are MtR facts of 06m -/
end
end L2
namespace L2
open PySem PySem.Spec PyProof.Rows
def MtM (X : Cx) (id : String) (r : V → List V → Hp → VK → Prop) : Prop :=
  ∀ (pins : List (Addr × Obj)) (s : Shared) (σ : St) (H : Hp) (x : V) (xs : List V) (v : Value) (us : List Value) (Q : VK), Inv X pins σ H s → RelV x v → Vals xs us → r x xs H Q →
    wpAny (model X.prog X.w) X.A (call (.builtin id) (v :: us)) (EP X pins σ Q) X.xe s
theorem Vals.one : ∀ {x : V} {us : List Value}, Vals [x] us → ∃ u, us = [u] ∧ RelV x u
  | _, _, .cons r .nil => ⟨_, rfl, r⟩
section
variable {X : Cx} {pins : List (Addr × Obj)} {σ : St} {H : Hp} {s : Shared} {l b : Addr} {xs ys zs : List V}
theorem Inv.lset {its its' : List Value} {n : Nat} {f : Array Value → Array Value} {t' : Nat} (I : Inv X pins σ H s) (hH : H l = some (.lst xs))
    (e : s.heap.get? l = some { cls := .type "list", data := .seq its.toArray n }) (hf : f its.toArray = its'.toArray) (hv : Vals ys its') (hz : ys.length ≤ sizeLine) :
    Inv X pins σ (upd H l (.lst ys)) { s with heap := s.heap.update l (Obj.mapSeq f), toks := t' } := by
  have q := PySem.IsL.update e f
  rw [hf] at q
  refine I.write (x := l) (e := l) (by rw [hH]; exact trivial) (.inl rfl) (fun b' u hb hu => (Heap.get?_update_other s.heap (Obj.mapSeq f) (Ne.symm hb)).trans hu) ⟨_, q⟩ ?_
  exact ⟨hz, its', _, hv, q⟩
theorem Inv.lnew {its : List Value} {t' : Nat} (I : Inv X pins σ H s) (hv : Vals ys its) (hz : ys.length ≤ sizeLine) :
    Inv X pins σ (upd H s.heap.objs.size (.lst ys)) { s with heap := s.heap.push { cls := .type "list", data := .seq its.toArray }, toks := t' } :=
  I.laid (fun _ _ q => Heap.get?_push_of_some _ q) (Nat.le_refl _) ⟨hz, its, 0, hv, Heap.get?_push_size _ rfl⟩
theorem Inv.fresh (I : Inv X pins σ H s) : H s.heap.objs.size = none := I.hok.fresh (Nat.le_refl _)
theorem Inv.lstM (I : Inv X pins σ H s) (hH : H l = some (.lst xs)) : xs.length ≤ sizeLine ∧ ∃ (its : List Value) (n : Nat), Vals xs its ∧ xs.length = its.length ∧ s.heap.get? l = some { cls := .type "list", data := .seq its.toArray n } := by
  obtain ⟨z, its, n, r, e⟩ := I.hok l _ hH
  exact ⟨z, its, n, r, r.length, e⟩
theorem notLongL {n : Nat} (h : n ≤ sizeLine) : Builtin.List.listTooLong n = false := by
  unfold Builtin.List.listTooLong
  exact decide_eq_false (by omega)
end
section
variable {X : Cx}
def rAppend : V → List V → Hp → VK → Prop := fun x vs H Q => ∃ l xs y, x = .ref l ∧ vs = [y] ∧ H l = some (.lst xs) ∧ xs.length < sizeLine ∧ Q .non (upd H l (.lst (xs ++ [y])))
theorem mt_append : MtM X "list.append" rAppend := by
  intro pins s σ H x vs v us Q I rx rv h
  obtain ⟨l, xs, y, rfl, rfl, hH, hz, q⟩ := h
  cases rx
  obtain ⟨u, rfl, ru⟩ := rv.one
  obtain ⟨z, its, n, r, hl, e⟩ := I.lstM hH
  refine call_meets F.slot_list_append ⟨_, e, rfl⟩ F.entry_list_append (F.args_list_append_2 _ _) (PySem.list_append l its.toArray n u (by rw [List.size_toArray]; omega)) ⟨e, ?_⟩
  refine ⟨.non, _, I.lset (its' := its ++ [u]) hH e (by simp) (r.append (.cons ru .nil)) ?_, rfl, q⟩
  rw [List.length_append, List.length_singleton]
  omega
def rExtend : V → List V → Hp → VK → Prop := fun x vs H Q => ∃ l b xs zs, x = .ref l ∧ vs = [.ref b] ∧ H l = some (.lst xs) ∧ H b = some (.lst zs) ∧ xs.length + zs.length ≤ sizeLine ∧ Q .non (upd H l (.lst (xs ++ zs)))
theorem mt_extend : MtM X "list.extend" rExtend := by
  intro pins s σ H x vs v us Q I rx rv h
  obtain ⟨l, b, xs, zs, rfl, rfl, hH, hB, hz, q⟩ := h
  cases rx
  obtain ⟨u, rfl, ru⟩ := rv.one
  cases ru
  obtain ⟨z, its, n, r, hl, e⟩ := I.lstM hH
  obtain ⟨z2, its2, n2, r2, hl2, e2⟩ := I.lstM hB
  have hsz : its.toArray.size + its2.toArray.size ≤ sizeLine := by rw [List.size_toArray, List.size_toArray]; omega
  have hlong : ¬ (!its.toArray.isEmpty && Builtin.List.listTooLong (its.toArray.size + its2.toArray.size)) = true := by
    rw [notLongL hsz, Bool.and_false]
    exact Bool.false_ne_true
  refine call_meets F.slot_list_extend ⟨_, e, rfl⟩ F.entry_list_extend (F.args_list_extend_2 _ _)
    (AutoSeq1.list_extend_list_list_0 l its.toArray n b its2.toArray n2 hlong (by rw [List.size_toArray]; omega) (by omega)) ⟨e, e2, ?_⟩
  refine ⟨.non, _, I.lset (its' := its ++ its2) hH e (by simp) (r.append r2) ?_, rfl, q⟩
  rw [List.length_append]
  omega
end
section
variable {prog : Program} {w : World} {A : Around} {E : Value → Shared → Prop} {s : Shared}
end
section
variable {X : Cx}
end
end L2
namespace Att
open PySem PySem.W PySem.Calls PyProof.Rows
theorem ints_of_wellAll {P : Params} {h : Heap} : ∀ (ns : List Int) (vs : List Value), WellAll P h vs (ns.map WData.int) → IntsAre vs ns := by
  intro ns
  induction ns with
  | nil =>
    intro vs w
    rw [List.map_nil] at w
    cases w
    exact .nil
  | cons n ns ih =>
    intro vs w
    rw [List.map_cons] at w
    cases w with
    | cons a b =>
      cases a
      exact .cons _ _ (ih _ b)
theorem script_of {l : OpenLaw} {n : Nat} (hn : l.most = some n) {P : Params} {h : Heap} {args : List WData} {vals : List Value}
    (hpre : l.row.toRowW.claim.pre args = true) (hwl : WellAll P h vals args) :
    ∃ a vs ns, vals = [Value.ref a] ∧ args = [WData.list (ns.map WData.int)] ∧ h.get? a = some { cls := .type "list", data := .seq vs.toArray } ∧ IntsAre vs ns ∧ ns.length ≤ n := by
  have hsh : WShape.hasAll [] args [.list .int] = true := (pre_splitW hpre).1
  have hc : l.pre.holds [] { args := args } = true := (pre_splitW hpre).2
  obtain ⟨d, r, rfl, h1, h2⟩ := hasAllW_cons hsh
  obtain rfl := hasAllW_nil h2
  obtain ⟨xs, rfl, h3⟩ := hasW_list h1
  obtain ⟨ns, rfl⟩ := items_int h3
  have hlen : ns.length ≤ n := by
    unfold OpenLaw.pre at hc
    have h4 : (WTm.not (.lt (.lit (.int (n : Int))) (.len (.arg 0)))).holds [] { args := [.list (ns.map .int)] } = true := by
      have h4 := (holds_andW hc).1
      rw [hn] at h4
      exact h4
    have h5 := condW_of h4 (w_not (w_lt w_lit (w_len_list (w_arg rfl))))
    rw [List.length_map] at h5
    refine Nat.le_of_not_lt fun q => ?_
    have q' : (n : Int) < ((ns.length : Nat) : Int) := by omega
    first
      | (rw [decide_eq_true q'] at h5; exact absurd h5 (by decide))
      | (simp at h5; omega)
  cases hwl with
  | cons w1 w2 =>
    cases w2
    cases w1 with
    | list ho hall => exact ⟨_, _, ns, rfl, rfl, ho, ints_of_wellAll ns _ hall, hlen⟩
theorem post_true (l : OpenLaw) (args : List WData) : l.row.toRowW.claim.post args (.bool true) args = true :=
  postW_of (r := l.row.toRowW) (X := (true == true))
    (show WShape.has [] (.bool true) .bool = true by first | rfl | decide | simp [WShape.has, WShape.arms, WShape.armsAll])
    (show (WTm.eq .res (.lit (.bool true))).value [] { args := args, res := some (.bool true), after := args } = some (.bool (true == true)) from w_eq_bool (w_res rfl) w_lit) rfl
theorem attach_call {l : OpenLaw} {n : Nat} {q : Program} {loose : List Str} {XP : (Str → Option Value) → Heap → Prop} {YP : World → Heap → Prop} {d : DefRec}
    (hn : l.most = some n) (hdf : d.params.defaults = [])
    (call : ∀ (w : World) (s₀ s₁ : Shared) (mg mb : Str → Option Value) (fa : Addr) (o : Obj) (pm cd doc : Value) (a : Addr) (vs : List Value) (ns : List Int),
      Ground q loose [] XP w s₀ mg mb s₁.heap → YP w s₁.heap →
      s₁.heap.get? fa = some o → o.data = .func (docDef d.name d.params d.body d.scope pm cd doc) → s₁.heap.CodeRec cd d.name → mg d.name = some (.ref fa) →
      s₁.heap.get? a = some { cls := .type "list", data := .seq vs.toArray } → IntsAre vs ns → ns.length ≤ n → s₁.gens = #[] →
      codeAny (model l.prog w) callerA (.call (.ref fa) ⟨[.ref a], []⟩) (fun r s' => r = .ok (.ret (.bool true)) ∧ OldK s₁.heap s'.heap ∧ s'.os = s₁.os ∧ AllBare s'.gens) s₁) :
    WalkO q loose XP YP l.row.toRowW d [] (fun f vs => PySem.call f vs) := by
  intro w s₀ s₁ mg mb G Y fa o pm cd doc dV kV ho hd hcd hD hmg hg args vals as hpre hlay hrd hwl hlo
  obtain rfl : dV = .none := Dflts.none hD hdf
  obtain rfl : kV = .none := Dflts.noKw hD
  obtain ⟨a, vs, ns, rfl, rfl, hobj, hints, hlen⟩ := script_of hn hpre hwl
  refine enter_call (codeAny_mono (call w s₀ s₁ mg mb fa o pm cd doc a vs ns G Y ho (fd_plain hd) hcd hmg hobj hints hlen hg) fun r s' hq => ?_)
  obtain ⟨rfl, h2, h3, h4⟩ := hq
  exact ⟨.inl ⟨.bool true, .bool true, [], rfl, fun _ => rfl, .bool true, post_true l _, fun _ => ⟨List.Pairwise.nil, fun _ hm => (nomatch hm)⟩⟩, h2, h3, h4⟩
section
variable {prog : Program} {w : World} {A : Around} {E : Value → Shared → Prop} {s : Shared} {K : Frag}
end
end Att
namespace L2
open PySem PySem.Spec PyProof.Rows
theorem vals_ints : ∀ {vs : List Value} {ns : List Int}, IntsAre vs ns → Vals (ns.map V.int) vs
  | _, _, .nil => .nil
  | _, _, .cons n t h => .cons ⟨t, rfl⟩ (vals_ints h)
def Only (H : Hp) : Prop := ∀ b, H b = none ∨ ∃ o xs, H b = some (.frz o (.lst xs))
theorem law_call {P : Program} {w : World} {K : PySem.W.Frag} {mg mb : Str → Option Value} {CX : CXT} {k : Nat} {fa a : Addr} {fd : FuncData} {x : Str} {sp : Sp} {s₁ : Shared} {vs : List Value} {ns : List Int}
    (KX : K.In s₁.heap) (hns : s₁.heap.Ns mainGlobals mg) (hb : s₁.heap.Ns builtinsNs mb) (hbb : ∀ x : Str, x ≠ "__name__" → mb x = bootBuiltins x) (hlim : s₁.heap.NoLimit) (hsee : s₁.heap.NoSeer) (hg : s₁.gens = #[])
    (ha : s₁.heap.get? a = some { cls := .type "list", data := .seq vs.toArray }) (hi : IntsAre vs ns) (hl : ns.length ≤ sizeLine) (hr : Room k callerA)
    (F : ∀ base : Heap, K.In base → base.Ns mainGlobals mg → FnOk P w K mg base CX k fa fd [x] sp) (hbind : ∀ (s : Shared) (u : Value), BindsTo s fd ⟨[u], []⟩ [(x, u)])
    (hsp : ∀ H : Hp, Only H → SqL K H a (ns.map V.int) → sp [.ref a] H (fun v _ => v = .bl true) fun _ _ _ => False)
    (hCX : ∀ H e s', CX [] H s₁ (fun _ _ _ => False) e s' → False) :
    codeAny (model P w) callerA (.call (.ref fa) ⟨[.ref a], []⟩) (fun r s' => r = .ok (.ret (.bool true)) ∧ OldK s₁.heap s'.heap ∧ s'.os = s₁.os ∧ AllBare s'.gens) s₁ := by
  have rv := vals_ints hi
  have lenV := hi.length
  -- from an abstract heap in which nothing but the script may be tracked
  have core : ∀ H : Hp, Only H → SqL K H a (ns.map V.int) → HOk P w H s₁.heap → (∀ b, H b ≠ none → b = a) → (H a ≠ none → K.lookup a = none) →
      codeAny (model P w) callerA (.call (.ref fa) ⟨[.ref a], []⟩) (fun r s' => r = .ok (.ret (.bool true)) ∧ OldK s₁.heap s'.heap ∧ s'.os = s₁.os ∧ AllBare s'.gens) s₁ := by
    intro H hO hS hok hA hK
    have base_of : ∀ {b : Addr} {o : Obj}, s₁.heap.get? b = some o → H b = none → (hidT s₁.heap H).get? b = some o := fun e n => hidT_get e n
    have noA : ∀ {b : Addr} {o : Obj} {es : Array DictEntry} {ep : Nat}, s₁.heap.get? b = some o → o.data = .dict es ep → H b = none := fun {b o es ep} e d => by
      cases q : H b with
      | none => rfl
      | some u =>
        have e' : b = a := hA b (by rw [q]; simp)
        subst e'
        rw [ha] at e; cases e
        have d' : Data.seq vs.toArray _ = Data.dict es ep := d
        cases d'
    have noM : ∀ {b : Addr} {o : Obj}, s₁.heap.get? b = some o → o.cls = .type "module" → H b = none := fun {b o} e d => by
      cases q : H b with
      | none => rfl
      | some u =>
        have e' : b = a := hA b (by rw [q]; simp)
        subst e'
        rw [ha] at e; cases e
        have d' : Value.type "list" = Value.type "module" := d
        injection d' with z
        exact absurd z (by decide)
    have nsK : ∀ {b : Addr} {m : Str → Option Value}, s₁.heap.Ns b m → (hidT s₁.heap H).Ns b m := fun {b m} ⟨o, es, ep, e, d, r⟩ => ⟨o, es, ep, base_of e (noA e d), d, r⟩
    have hKb : K.In (hidT s₁.heap H) := fun b o e => base_of (KX b o e) (by
      cases q : H b with
      | none => rfl
      | some u =>
        have e' : b = a := hA b (by rw [q]; simp)
        subst e'
        rw [hK (by rw [q]; simp)] at e; cases e)
    have hM : Mod K mg (hidT s₁.heap H) := ⟨hKb, nsK hns, ⟨mb, nsK hb, hbb⟩, (let ⟨mc, h1, h2⟩ := hlim; ⟨mc, nsK h1, h2⟩), ⟨(let ⟨mc, a1, b1⟩ := hsee.statics; ⟨mc, nsK a1, b1⟩), (let ⟨mc, a1, b1⟩ := hsee.mods; ⟨mc, nsK a1, b1⟩), (let ⟨mc, a1, b1⟩ := hsee.imp; ⟨mc, nsK a1, b1⟩), (let ⟨mg', bm, ob, a1, b1, c1, d1, f1⟩ := hsee.main; ⟨mg', bm, ob, nsK a1, b1, base_of c1 (noM c1 d1), d1, f1⟩)⟩⟩
    have e0 : Env0 P w K mg (hidT s₁.heap H) callerA [] s₁ H := ⟨rfl, hM, fun b o e => of_hidT e, Nat.le_of_eq (hidT_size _ _), trivial, fun b hb => absurd (show b ∈ ([] : List Addr) from hb) (by simp), hok, .of_eq hg⟩
    refine codeAny_mono ((F _ hKb (nsK hns)).run callerA [] s₁ H ⟨[.ref a], []⟩ [.ref a] [.ref a] _ _ hr e0 (hbind s₁ (.ref a)) (.cons rfl .nil) (hsp H hO hS)) fun r s' h => ?_
    cases r with
    | error e => exact (hCX H e s' h).elim
    | ok fl =>
      cases fl with
      | next => exact False.elim h
      | brk => exact False.elim h
      | cont => exact False.elim h
      | ret u =>
        obtain ⟨v, H', os, bare, un, hok', r', q⟩ := h
        have q' : v = .bl true := q
        subst q'
        obtain rfl : u = Value.bool true := r'
        refine ⟨rfl, OldK.of_keep fun b o e => ?_, os, bare⟩
        cases q : H b with
        | none => exact un.keep b o e q (by intro z; exact absurd (show b ∈ ([] : List Addr) from z) (by simp)) (by simp)
        | some u =>
          rcases hO b with z | ⟨ob, xs, z⟩
          · rw [q] at z; cases z
          · have z2 := un.frzs b ob _ z
            obtain ⟨e1, _⟩ := hok b _ z
            obtain ⟨e2, _⟩ := hok' b _ z2
            rw [e] at e1; cases e1
            exact e2
  cases hk : K.lookup a with
  | some o =>
    -- the script is one of the module's own objects
    have e := KX a o hk
    rw [ha] at e
    cases e
    refine core (fun _ => none) (fun _ => .inl rfl) (.inr ⟨_, vs.toArray, _, hk, rfl, rfl, rfl, by rw [List.size_toArray, lenV]; exact hl, by simpa using rv⟩) (fun b u z => by have z' : (none : Option HO) = some u := z; cases z') (fun b z => absurd rfl z) fun z => absurd rfl z
  | none =>
    refine core (fun b => if b = a then some (.frz { cls := .type "list", data := .seq vs.toArray } (.lst (ns.map V.int))) else none) (fun b => ?_) (.inl (.inr ⟨{ cls := .type "list", data := .seq vs.toArray }, if_pos rfl⟩)) (fun b u z => ?_) (fun b z => ?_) fun _ => hk
    · by_cases hb : b = a
      · exact .inr ⟨_, _, if_pos hb⟩
      · exact .inl (if_neg hb)
    · by_cases hb : b = a
      · have z' := (if_pos hb).symm.trans z
        cases z'
        subst hb
        exact ⟨ha, by rw [List.length_map]; exact hl, vs, _, rv, ha⟩
      · have z' := (if_neg hb).symm.trans z
        cases z'
    · by_cases hb : b = a
      · exact hb
      · exact absurd (if_neg hb) z
end L2
namespace L2
open PySem PySem.Spec PyProof.Rows
abbrev KOf {K : PySem.W.Frag} {h : Heap} (_ : K.In h) : PySem.W.Frag := K
theorem walk_of {l : PySem.W.OpenLaw} {n k : Nat} {q : Program} {loose : List Str} {XP : (Str → Option Value) → Heap → Prop} {YP : World → Heap → Prop} {d : DefRec} {K : Params → PySem.W.Frag} {CX : World → CXT} {sp : World → Sp} {x : Str}
    (hn : l.most = some n) (hn2 : n ≤ sizeLine) (hi : importsNone q = true) (hdf : d.params.defaults = []) (hr : Room k callerA)
    (hY : ∀ (w : World) (h : Heap), YP w h → (K w.params).In h)
    (F : ∀ (w : World) (mg : Str → Option Value) (fa : Addr) (h : Heap), (K w.params).In h → h.Ns mainGlobals mg → mg d.name = some (.ref fa) →
      ∃ fd : FuncData, (∀ (s : Shared) (u : Value), BindsTo s fd ⟨[u], []⟩ [(x, u)]) ∧
        ∀ base : Heap, (K w.params).In base → base.Ns mainGlobals mg → FnOk l.prog w (K w.params) mg base (CX w) k fa fd [x] (sp w))
    (hsp : ∀ (w : World) (H : Hp) (a : Addr) (ns : List Int), ns.length ≤ n → Only H → SqL (K w.params) H a (ns.map V.int) → sp w [.ref a] H (fun v _ => v = .bl true) fun _ _ _ => False)
    (hCX : ∀ (w : World) (H : Hp) (s : Shared) (e : Value) (s' : Shared), CX w [] H s (fun _ _ _ => False) e s' → False) :
    PySem.W.WalkO q loose XP YP l.row.toRowW d [] (fun f vs => PySem.call f vs) := by
  refine Att.attach_call hn hdf fun w s₀ s₁ mg mb fa o pm cd doc a vs ns G Y ho hd hcd hmg hobj hints hlen hg => ?_
  have KX := hY w _ Y
  obtain ⟨fd, hb, hF⟩ := F w mg fa _ KX G.T.g hmg
  exact law_call KX G.T.g G.T.b G.T.builtins G.T.nolimit (G.T.seer hi) hg hobj hints (Nat.le_trans hlen hn2) hr hF hb (fun H hO hS => hsp w H a ns hlen hO hS) fun H e s' => hCX w H s₁ e s'
end L2
namespace L2
open PySem PySem.Spec PyProof.Rows
abbrev CX0 : CXT := fun _ _ _ _ _ _ => False
abbrev E0 : XK := fun _ _ _ => False
theorem pass0 {X : Cx} : Passes CX0 X E0 := fun _ _ _ _ _ _ _ h => h.elim
structure Fun (K : PySem.W.Frag) (x qual : Str) (st : Stmt) (f : Addr) (fd : FuncData) : Prop where
  ex : ∃ (oc : Value) (od : Option Addr) (kV doc pm : Value) (an : Option Addr) (cdv ct : Value) (osl : Array (Option Value)),
    fd = PySem.W.fnOf x qual (defArgs st) (defBody st) (defScope st) .none kV doc pm an cdv ct ∧ K.lookup f = some ⟨oc, od, .func fd, osl⟩ ∧ PySem.W.codeIn K cdv qual = true
  kp : PySem.W.keepIn K (.ref f) = true
section
variable {P : Program} {w : World} {K : PySem.W.Frag} {mg : Str → Option Value} {base : Heap}
theorem Fun.ok {x qual : Str} {st : Stmt} {f : Addr} {fd : FuncData} {N ps : List Str} {k : Nat} {sp : Sp} (F : Fun K x qual st f fd) (S : FnScope N ps (defScope st)) (len : ∀ vs H Q E, sp vs H Q E → vs.length = ps.length)
    (hbody : ∀ (cdv : Value) (A : Around) (outer : List Env) (s : Shared) (H : Hp) (vs : List V) (Q : VK) (E : XK), Room k (A.deeper (envOfC qual (defScope st) s.heap.objs.size f cdv)) → sp vs H Q E →
      ∃ t, PSs (cxOf CX0 P w K mg base N qual (defScope st) f cdv A outer s H E).nox (defBody st) t ∧ t { nx := fun _ H' => Q .non H', rt := Q } (start N vs) H) : FnOk P w K mg base CX0 (k + 1) f fd ps sp := by
  obtain ⟨oc, od, kV, doc, pm, an, cdv, ct, osl, rfl, lk, hcd⟩ := F.ex
  refine fn_of lk hcd S len fun A outer s H vs Q E hr hsp => ?_
  obtain ⟨t, h, q⟩ := hbody cdv A outer s H vs Q E hr hsp
  exact ⟨t, h.nox, q⟩
theorem Fun.binds {x qual : Str} {st : Stmt} {f : Addr} {fd : FuncData} {ps : List Str} (F : Fun K x qual st f fd)
    (h : ∀ (kV doc pm : Value) (an : Option Addr) (cdv ct : Value) (us : List Value), us.length = ps.length → bindArgs (PySem.W.fnOf x qual (defArgs st) (defBody st) (defScope st) .none kV doc pm an cdv ct) ⟨us, []⟩ = pure (ps.zip us)) : Binds K fd ps [] := by
  obtain ⟨oc, od, kV, doc, pm, an, cdv, ct, osl, rfl, lk, hcd⟩ := F.ex
  exact .all (h kV doc pm an cdv ct)
theorem fun_mk {x qual : Str} {st : Stmt} {f : Addr} {oc : Value} {od an : Option Addr} {osl : Array (Option Value)} {kV doc pm cdv ct : Value} (l : K.lookup f = some ⟨oc, od, .func (PySem.W.fnOf x qual (defArgs st) (defBody st) (defScope st) .none kV doc pm an cdv ct), osl⟩)
    (c : PySem.W.codeIn K cdv qual = true) (k : PySem.W.keepIn K (.ref f) = true) : Fun K x qual st f (PySem.W.fnOf x qual (defArgs st) (defBody st) (defScope st) .none kV doc pm an cdv ct) := ⟨⟨oc, od, kV, doc, pm, an, cdv, ct, osl, rfl, l, c⟩, k⟩
end
section
variable {X : Cx}
end
theorem iteF {A B : Prop} (h : B) : if false = true then A else B := by
  rw [if_neg Bool.false_ne_true]
  exact h
theorem iteT {A B : Prop} (h : A) : if true = true then A else B := by
  rw [if_pos rfl]
  exact h
def Same (H H' : Hp) : Prop := ∀ b o, H b = some o → H' b = some o
theorem Same.refl (H : Hp) : Same H H := fun _ _ h => h
theorem Same.trans {H H1 H2 : Hp} (a : Same H H1) (b : Same H1 H2) : Same H H2 := fun c o h => b c o (a c o h)
theorem Same.free {H H' : Hp} (e : Same H H') {l : Addr} (h : H' l = Option.none) : H l = Option.none := by
  cases q : H l with
  | none => rfl
  | some o =>
    rw [e l o q] at h
    cases h
theorem Same.seq {K : PySem.W.Frag} {H H' : Hp} {a : Addr} {xs : List V} (e : Same H H') (h : SqL K H a xs) : SqL K H' a xs := by
  rcases h with (h | ⟨o, h⟩) | h
  · exact .inl (.inl (e _ _ h))
  · exact .inl (.inr ⟨o, e _ _ h⟩)
  · exact .inr h
end L2
set_option Elab.async false
set_option linter.all false
namespace My
def G (a b : Int) : Int := ((Int.gcd a b : Nat) : Int)
theorem G_end {a : Int} (ha : 0 ≤ a) : G a 0 = a := by
  show ((Int.gcd a 0 : Nat) : Int) = a
  rw [Int.gcd_zero_right]
  omega
theorem G_turn {a b : Int} (ha : 0 ≤ a) (hb : 0 < b) : G b (Int.fmod a b) = G a b := by
  unfold G
  rw [Int.fmod_eq_emod_of_nonneg a (Int.le_of_lt hb)]
  obtain ⟨m, rfl⟩ := Int.eq_ofNat_of_zero_le ha
  obtain ⟨n, rfl⟩ := Int.eq_ofNat_of_zero_le (Int.le_of_lt hb)
  show ((Nat.gcd (n : Int).natAbs ((m : Int) % (n : Int)).natAbs : Nat) : Int) = ((Nat.gcd (m : Int).natAbs (n : Int).natAbs : Nat) : Int)
  have e : ((m : Int) % (n : Int)).natAbs = m % n := by omega
  rw [e, Int.natAbs_natCast, Int.natAbs_natCast, Nat.gcd_comm m n, Nat.gcd_comm n (m % n), ← Nat.gcd_rec]
theorem G_pos {a b : Int} (hb : 0 < b) : 0 < G a b := by
  have : 0 < Int.gcd a b := Int.gcd_pos_of_ne_zero_right a (by omega)
  unfold G
  omega
theorem num_share {t b : Int} (hb : 0 < b) : Int.fdiv t (G t b) = (Rat.divInt t b).num := by
  rw [Int.fdiv_eq_ediv_of_nonneg _ (Int.le_of_lt (G_pos hb)), Rat.num_divInt, Int.sign_eq_one_of_pos hb, Int.one_mul]
  unfold G
  rw [Int.gcd_comm]
theorem den_share {t b : Int} (hb : 0 < b) : Int.fdiv b (G t b) = ((Rat.divInt t b).den : Int) := by
  rw [Int.fdiv_eq_ediv_of_nonneg _ (Int.le_of_lt (G_pos hb)), Rat.den_divInt, if_neg (show ¬ b = 0 by omega), Int.natCast_ediv, Int.natAbs_of_nonneg (Int.le_of_lt hb)]
  unfold G
  rw [Int.gcd_comm]
theorem den_ne (q : Rat) : (q.den : Int) ≠ 0 := by have := q.den_pos; omega
theorem den_pos' (q : Rat) : (0 : Int) < q.den := by have := q.den_pos; omega
theorem q_add (p q : Rat) : Rat.divInt (p.num * q.den + q.num * p.den) (p.den * q.den) = p + q := by
  rw [← Rat.divInt_add_divInt _ _ (den_ne p) (den_ne q), Rat.num_divInt_den, Rat.num_divInt_den]
theorem q_sub (p q : Rat) : Rat.divInt (p.num * q.den - q.num * p.den) (p.den * q.den) = p - q := by
  rw [← Rat.divInt_sub_divInt _ _ (den_ne p) (den_ne q), Rat.num_divInt_den, Rat.num_divInt_den]
theorem q_mul (p q : Rat) : Rat.divInt (p.num * q.num) (p.den * q.den) = p * q := by
  rw [← Rat.divInt_mul_divInt, Rat.num_divInt_den, Rat.num_divInt_den]
theorem q_div (p q : Rat) : Rat.divInt (p.num * q.den) (p.den * q.num) = p / q := by
  rw [← Rat.divInt_mul_divInt, Rat.num_divInt_den, Rat.div_def, Rat.inv_def]
theorem q_lt (p q : Rat) : p.num * q.den < q.num * p.den ↔ p < q := (Rat.lt_iff p q).symm
theorem q_cross {t b : Int} (hb : 0 < b) : (Rat.divInt t b).num * b = t * (Rat.divInt t b).den := by
  have h := Rat.num_divInt_den (Rat.divInt t b)
  exact (Rat.divInt_eq_divInt_iff (den_ne _) (by omega)).mp h
theorem q_num_pos {q : Rat} (h : 0 < q) : 0 < q.num := by
  have h2 := (Rat.lt_iff 0 q).mp h
  have e1 : (0 : Rat).num = 0 := rfl
  have e2 : (0 : Rat).den = 1 := rfl
  rw [e1, e2, Int.zero_mul] at h2
  omega
theorem q_num_nn {q : Rat} (h : 0 ≤ q) : 0 ≤ q.num := Rat.num_nonneg.mpr h
theorem q_inj {p q : Rat} (h1 : p.num = q.num) (h2 : (p.den : Int) = q.den) : p = q := Rat.ext h1 (by omega)
end My
set_option Elab.async false
set_option linter.all false
namespace My
theorem mul_num (p q : Rat) : (p * q).num = p.num / ((p.num.natAbs.gcd q.den : Nat) : Int) * (q.num / ((q.num.natAbs.gcd p.den : Nat) : Int)) := by
  show (Rat.mul p q).num = _
  unfold Rat.mul
  simp only [Int.divExact_eq_ediv]
theorem mul_den (p q : Rat) : (p * q).den = q.den / p.num.natAbs.gcd q.den * (p.den / q.num.natAbs.gcd p.den) := by
  show (Rat.mul p q).den = _
  unfold Rat.mul
  simp only [Nat.divExact_eq_div, Nat.mul_comm]
theorem gcd_sum {n1 d1 n2 d2 : Nat} (h1 : Nat.Coprime n1 d1) (h2 : Nat.Coprime n2 d2) (p1 : 0 < d1) (p2 : 0 < d2) :
    Nat.gcd (n1 * d2 + n2 * d1) (d1 * d2) = Nat.gcd d1 d2 * Nat.gcd (n1 * (d2 / Nat.gcd d1 d2) + n2 * (d1 / Nat.gcd d1 d2)) (Nat.gcd d1 d2) := by
  have g0 : 0 < Nat.gcd d1 d2 := Nat.gcd_pos_of_pos_left _ p1
  generalize hg : Nat.gcd d1 d2 = g at *
  obtain ⟨e1, rfl⟩ : g ∣ d1 := hg ▸ Nat.gcd_dvd_left _ _
  obtain ⟨e2, rfl⟩ : g ∣ d2 := hg ▸ Nat.gcd_dvd_right _ _
  have ce : Nat.Coprime e1 e2 := by
    rw [Nat.gcd_mul_left] at hg
    exact Nat.eq_of_mul_eq_mul_left g0 (by rw [hg, Nat.mul_one])
  rw [Nat.mul_div_cancel_left _ g0, Nat.mul_div_cancel_left _ g0]
  have a1 : Nat.Coprime e1 (n1 * e2 + n2 * e1) := by
    show Nat.gcd e1 (n1 * e2 + n2 * e1) = 1
    rw [Nat.mul_comm n2 e1, Nat.gcd_add_mul_left_right]
    exact Nat.Coprime.mul_right ((h1.coprime_dvd_right ⟨g, Nat.mul_comm _ _⟩).symm) ce
  have a2 : Nat.Coprime e2 (n1 * e2 + n2 * e1) := by
    show Nat.gcd e2 (n1 * e2 + n2 * e1) = 1
    rw [Nat.add_comm, Nat.mul_comm n1 e2, Nat.gcd_add_mul_left_right]
    exact Nat.Coprime.mul_right ((h2.coprime_dvd_right ⟨g, Nat.mul_comm _ _⟩).symm) ce.symm
  rw [show n1 * (g * e2) + n2 * (g * e1) = g * (n1 * e2 + n2 * e1) by grind, show g * e1 * (g * e2) = g * (e1 * (e2 * g)) by grind, Nat.gcd_mul_left, a1.gcd_mul_left_cancel_right, a2.gcd_mul_left_cancel_right]
theorem add_num {p q : Rat} (hp : 0 ≤ p.num) (hq : 0 ≤ q.num) : (p + q).num = (p.num * (q.den / G p.den q.den) + q.num * (p.den / G p.den q.den)) / G (p.num * (q.den / G p.den q.den) + q.num * (p.den / G p.den q.den)) (G p.den q.den) ∧
    ((p + q).den : Int) = p.den / G p.den q.den * (q.den / G (p.num * (q.den / G p.den q.den) + q.num * (p.den / G p.den q.den)) (G p.den q.den)) := by
  obtain ⟨n1, e1⟩ := Int.eq_ofNat_of_zero_le hp
  obtain ⟨n2, e2⟩ := Int.eq_ofNat_of_zero_le hq
  have c1 : Nat.Coprime n1 p.den := by have := p.reduced; rw [e1] at this; exact this
  have c2 : Nat.Coprime n2 q.den := by have := q.reduced; rw [e2] at this; exact this
  have d1 := p.den_pos
  have d2 := q.den_pos
  rw [Rat.num_add, Rat.den_add, e1, e2]
  generalize p.den = b1 at *
  generalize q.den = b2 at *
  have gg := gcd_sum c1 c2 d1 d2
  have g0 : 0 < Nat.gcd b1 b2 := Nat.gcd_pos_of_pos_left _ d1
  have hG : G (b1 : Int) b2 = ((Nat.gcd b1 b2 : Nat) : Int) := rfl
  have hN : ((n1 : Int) * b2 + n2 * b1) = ((n1 * b2 + n2 * b1 : Nat) : Int) := by push_cast; rfl
  have ht : (n1 : Int) * ((b2 : Int) / G b1 b2) + n2 * ((b1 : Int) / G b1 b2) = ((n1 * (b2 / Nat.gcd b1 b2) + n2 * (b1 / Nat.gcd b1 b2) : Nat) : Int) := by rw [hG]; push_cast; rfl
  rw [ht, hG]
  rw [hN, Int.natAbs_natCast, gg]
  generalize hgv : Nat.gcd b1 b2 = g at *
  obtain ⟨e1', rfl⟩ : g ∣ b1 := hgv ▸ Nat.gcd_dvd_left _ _
  obtain ⟨e2', rfl⟩ : g ∣ b2 := hgv ▸ Nat.gcd_dvd_right _ _
  rw [Nat.mul_div_cancel_left _ g0, Nat.mul_div_cancel_left _ g0]
  generalize hl : Nat.gcd (n1 * e2' + n2 * e1') g = l
  have l0 : 0 < l := hl ▸ Nat.gcd_pos_of_pos_right _ g0
  have hGl : G ((n1 * e2' + n2 * e1' : Nat) : Int) (g : Int) = (l : Int) := by rw [← hl]; rfl
  obtain ⟨m, hm⟩ : l ∣ g := hl ▸ Nat.gcd_dvd_right _ _
  rw [hGl]
  constructor
  · rw [show n1 * (g * e2') + n2 * (g * e1') = g * (n1 * e2' + n2 * e1') by grind, ← Int.natCast_ediv, ← Int.natCast_ediv, Nat.mul_div_mul_left _ _ g0]
  · subst hm
    rw [← Int.natCast_ediv, ← Int.natCast_ediv, ← Int.natCast_mul]
    congr 1
    rw [Nat.mul_div_cancel_left _ g0, show l * m * e1' * (l * m * e2') = (l * m * l) * (e1' * (m * e2')) by grind, Nat.mul_div_cancel_left _ (Nat.mul_pos g0 l0), show l * m * e2' = l * (m * e2') by grind, Nat.mul_div_cancel_left _ l0]
end My
set_option Elab.async false
set_option linter.all false
set_option maxRecDepth 100000
set_option maxHeartbeats 4000000
namespace L2
open PySem PySem.Spec PyProof.Rows
section
variable {P : Program} {w : World} {H : Hp} {h : Heap} {a : Addr} {o : HO}
theorem ObjOk.there (x : ObjOk P w H h a o) : ∃ ob, h.get? a = some ob := by
  cases o with
  | lst xs => obtain ⟨_, _, _, _, e⟩ := x; exact ⟨_, e⟩
  | tup xs => obtain ⟨_, _, _, ob, e, _⟩ := x; exact ⟨ob, e⟩
  | dK kvs => obtain ⟨_, _, _, _, o, _, _, e, _⟩ := x; exact ⟨o, e⟩
  | dT kvs => obtain ⟨_, _, _, _, o, _, _, e, _⟩ := x; exact ⟨o, e⟩
  | set S n => obtain ⟨o, _, _, _, e, _⟩ := x; exact ⟨o, e⟩
  | ins C dx fs => obtain ⟨_, _, _, e, _⟩ := x; exact ⟨_, e⟩
  | own y => obtain ⟨u, e⟩ := x; exact ⟨u, e⟩
  | xd fs => obtain ⟨_, ⟨u, _, _, e, _⟩, _⟩ := x; exact ⟨u, e⟩
  | rng lo hi => obtain ⟨_, _, _, e⟩ := x; exact ⟨_, e⟩
  | frz ob u => obtain ⟨e, _⟩ := x; exact ⟨_, e⟩
  | tbl ps =>
    have e : h.get? a = some _ := x
    exact ⟨_, e⟩
  | met f y =>
    have e : h.get? a = some _ := x
    exact ⟨_, e⟩
  | ext φ => obtain ⟨_, ⟨u, e⟩, _⟩ := x; exact ⟨u, e⟩
end
section
variable {P : Program} {w : World} {outer : List Env} {H H' : Hp} {s s' : Shared} {ea : Addr} {cls : Value} {B : Heap}
end
section
variable {X : Cx} {pins : List (Addr × Obj)} {σ : St} {H : Hp} {s : Shared}
end
section
variable {P : Program} {w : World} {K : PySem.W.Frag} {mg : Str → Option Value} {base : Heap} {N : List Str} {qual : Str} {scope : Scope} {f : Addr} {cd : Value} {A : Around} {outer : List Env} {s : Shared} {H : Hp} {E : XK} {CX : CXT}
end
end L2
set_option Elab.async false
set_option linter.all false
set_option maxRecDepth 100000
set_option maxHeartbeats 4000000
namespace L2
open PySem PySem.Spec PyProof.Rows
section
variable {X : Cx}
end
section
variable {X : Cx}
end
def xobj (a : Addr) (cls : Value) : HO := .ext fun h => ∃ o vs, h.get? a = some o ∧ o.cls = cls ∧ o.data = .fields vs
section
variable {X : Cx} {pins : List (Addr × Obj)} {σ : St} {H : Hp} {s : Shared}
end
end L2
set_option Elab.async false
set_option linter.all false
set_option maxRecDepth 100000
set_option maxHeartbeats 4000000
namespace L2
open PySem PySem.Spec PyProof.Rows
section
variable {X : Cx} {pins : List (Addr × Obj)} {σ : St} {H : Hp} {s : Shared}
end
section
variable {X : Cx}
end
end L2
set_option Elab.async false
set_option linter.all false
set_option maxRecDepth 100000
set_option maxHeartbeats 4000000
namespace L2
open PySem PySem.Spec PySem.Calls PyProof.Rows PySem.W PySem.Builtin PySem.Builtin.ObjectAttr PySem.Builtin.Getset_descriptor
section
variable {prog : Program} {w : World} {A : Around} {E : Value → Shared → Prop} {K : PySem.W.Frag} {x C : Addr} {h : Heap} {g : Array GenState} {d : Drawn} {t : Nat} {os : OsState}
end
end L2
set_option Elab.async false
set_option linter.all false
set_option maxRecDepth 100000
set_option maxHeartbeats 4000000
namespace L2
open PySem PySem.Spec PySem.Calls PyProof.Rows PySem.W
def cV : V → Value
  | .ref a => .ref a
  | .ty n => .type n
  | _ => .none
theorem rel_cV {c : V} {u : Value} (r : RelV c u) (h : cV c ≠ .none) : u = cV c := by
  cases c <;> first | exact r | exact absurd rfl h
section
variable {X : Cx}
theorem op_mulI : OpR X (binaryOp .Mult) (rI IntMulOk fun i j => .int (i * j)) := opI fun _ _ _ _ _ _ _ hc q => mul_int q hc
end
structure Pyl (X : Cx) : Prop where
  tree : X.prog.given.tree = none
  fr : ∃ env l, X.stack = env :: l ∧ env.scope.isGenerator = false ∧ env.scope.isCoroutine = false ∧ env.builtins = builtinsNs ∧ env.globals = mainGlobals
  dp : X.A.depth + Builtin.pylongFrames < recursionLimit
theorem Pyl.room {X : Cx} (p : Pyl X) {pins : List (Addr × Obj)} {σ : St} {H : Hp} {s : Shared} (I : Inv X pins σ H s) : PylongRoom (model X.prog X.w) X.A s := by
  obtain ⟨env, l, h1, h2, h3, h4, h5⟩ := p.fr
  exact PylongRoom.of I.nolimit p.dp (SeerAt.of (I.ok.mod.seer.keeps I.bk) p.tree (I.ok.frames.trans (congrArg some h1)) h2 h3 h4 h5)
section
variable {X : Cx}
theorem op_fdivP (p : Pyl X) : OpR X (binaryOp .FloorDiv) (rI (fun _ j => j ≠ 0) fun i j => .int (i.fdiv j)) := by
  intro pins s σ H x y v u Q I rx ry h
  obtain ⟨i, j, rfl, rfl, hc, q⟩ := h
  obtain ⟨t, rfl⟩ := rx
  obtain ⟨t', rfl⟩ := ry
  exact floordiv_int hc ⟨.int (i.fdiv j), H, I.tok _, ⟨_, rfl⟩, q⟩ (Or.inr (p.room I))
end
end L2
set_option Elab.async false
set_option linter.all false
set_option maxRecDepth 100000
set_option maxHeartbeats 4000000
namespace L2
open PySem PySem.Spec PySem.Calls PyProof.Rows
def DefK (K : PySem.W.Frag) (mg : Str → Option Value) (x : Str) (st : Stmt) (ps : List Str) : Prop := ∃ f fd, Fun K x x st f fd ∧ mg x = some (.ref f) ∧ Binds K fd ps []
def OkF (P : Program) (w : World) (K : PySem.W.Frag) (mg : Str → Option Value) (base : Heap) (CX : CXT) (k : Nat) (x : Str) (ps : List Str) (sp : Sp) : Prop :=
  ∃ f fd, FnOk P w K mg base CX k f fd ps sp ∧ mg x = some (.ref f) ∧ PySem.W.keepIn K (.ref f) = true ∧ Binds K fd ps []
theorem def_mk {K : PySem.W.Frag} {h : Heap} {mg : Str → Option Value} (X : K.In h) (G : h.Ns mainGlobals mg) {x : Str} {st : Stmt} (ps : List Str) {f : Addr} {oc : Value} {od an : Option Addr} {osl : Array (Option Value)} {kV doc pm cdv ct : Value}
    (a : PySem.W.nsIn K mainGlobals x = some (some (.ref f))) (l : K.lookup f = some ⟨oc, od, .func (PySem.W.fnOf x x (defArgs st) (defBody st) (defScope st) .none kV doc pm an cdv ct), osl⟩)
    (c : PySem.W.codeIn K cdv x = true) (k : PySem.W.keepIn K (.ref f) = true)
    (hb : ∀ (kV doc pm : Value) (an : Option Addr) (cdv ct : Value) (us : List Value), us.length = ps.length → bindArgs (PySem.W.fnOf x x (defArgs st) (defBody st) (defScope st) .none kV doc pm an cdv ct) ⟨us, []⟩ = pure (ps.zip us)) : DefK K mg x st ps :=
  have F := fun_mk (st := st) l c k
  ⟨f, _, F, PySem.W.mg_of X G a, F.binds hb⟩
section
variable {P : Program} {w : World} {K : PySem.W.Frag} {mg : Str → Option Value} {base : Heap}
theorem DefK.ok {x : Str} {st : Stmt} {N ps : List Str} {k : Nat} {sp : Sp} (d : DefK K mg x st ps) (S : FnScope N ps (defScope st)) (len : ∀ vs H Q E, sp vs H Q E → vs.length = ps.length)
    (hbody : ∀ (f : Addr) (cdv : Value) (A : Around) (outer : List Env) (s : Shared) (H : Hp) (vs : List V) (Q : VK) (E : XK), Room k (A.deeper (envOfC x (defScope st) s.heap.objs.size f cdv)) → sp vs H Q E →
      ∃ t, PSs (cxOf CX0 P w K mg base N x (defScope st) f cdv A outer s H E).nox (defBody st) t ∧ t { nx := fun _ H' => Q .non H', rt := Q } (start N vs) H) : OkF P w K mg base CX0 (k + 1) x ps sp := by
  obtain ⟨f, fd, F, m, b⟩ := d
  exact ⟨f, fd, F.ok S len fun cdv A outer s H vs Q E hr h => hbody f cdv A outer s H vs Q E hr h, m, F.kp, b⟩
end
section
variable {X : Cx} {x : Str} {ps : List Str} {sp : Sp} {k : Nat} {p pos : Pos} {e : Expr} {es : List Expr} {t : TA}
theorem pe_fn (o : OkF X.prog X.w X.K X.mg X.base CX0 k x ps sp) (hr : Room k X.A) (hg : Gl X x) (ha : PA X (e :: es) t) (hdb : (x == ("__debug__" : Str)) = false := by decide)
    (he : starEach (e :: es) X.env = (false, eval e X.env) :: starEach es X.env := by rfl) (hpl : (backTo pos (starEach es X.env)).any (·.1) = false := by rfl) : PE X (.Call (.Name x p) (e :: es) [] pos) (tCall sp [] E0 t) := by
  obtain ⟨f, fd, F, m, kp, b⟩ := o
  exact pe_call F hr hg m kp b .nil pass0 ha hdb he hpl
end
theorem pyl_cx {CX : CXT} {P : Program} {w : World} {K : PySem.W.Frag} {mg : Str → Option Value} {base : Heap} {N : List Str} {qual : Str} {scope : Scope} {f : Addr} {cd : Value} {A : Around} {outer : List Env} {s : Shared} {H : Hp} {E : XK} {k : Nat}
    (ht : P.given.tree = none) (hg : scope.isGenerator = false) (hc : scope.isCoroutine = false) (hr : Room k (A.deeper (envOfC qual scope s.heap.objs.size f cd))) (hk : 32 ≤ k) :
    Pyl (cxOf CX P w K mg base N qual scope f cd A outer s H E) :=
  ⟨ht, ⟨_, _, rfl, hg, hc, rfl, rfl⟩, by have := hr.dp; show (A.deeper _).depth + 100 < _; omega⟩
theorem Pyl.nox {X : Cx} (p : Pyl X) : Pyl X.nox := ⟨p.tree, p.fr, p.dp⟩
theorem law_mk {P : Program} {w : World} {K : PySem.W.Frag} {h : Heap} {mg : Str → Option Value} {n : Nat} {sp : Sp} (X : K.In h) (G : h.Ns mainGlobals mg) {x y : Str} {st : Stmt} {fa f : Addr} {oc : Value} {od an : Option Addr} {osl : Array (Option Value)} {kV doc pm cdv ct : Value} (hfa : mg x = some (.ref fa))
    (a : PySem.W.nsIn K mainGlobals x = some (some (.ref f))) (l : K.lookup f = some ⟨oc, od, .func (PySem.W.fnOf x x (defArgs st) (defBody st) (defScope st) .none kV doc pm an cdv ct), osl⟩)
    (c : PySem.W.codeIn K cdv x = true) (k : PySem.W.keepIn K (.ref f) = true)
    (hb : ∀ v : Value, bindArgs (PySem.W.fnOf x x (defArgs st) (defBody st) (defScope st) .none kV doc pm an cdv ct) ⟨[v], []⟩ = pure [(y, v)])
    (ok : ∀ (fd : FuncData) (base : Heap), K.In base → base.Ns mainGlobals mg → Fun K x x st fa fd → FnOk P w K mg base CX0 n fa fd [y] sp) :
    ∃ fd : FuncData, (∀ (s : Shared) (u : Value), BindsTo s fd ⟨[u], []⟩ [(y, u)]) ∧ ∀ base : Heap, K.In base → base.Ns mainGlobals mg → FnOk P w K mg base CX0 n fa fd [y] sp := by
  have e := hfa.symm.trans (PySem.W.mg_of X G a)
  cases e
  exact ⟨_, fun s u => .of_eq (hb u), fun base kb nb => ok _ base kb nb (fun_mk (st := st) l c k)⟩
end L2
set_option Elab.async false
set_option linter.all false
set_option maxRecDepth 100000
set_option maxHeartbeats 4000000
namespace L2
open PySem PySem.Spec PySem.Calls PyProof.Rows
def capsOf : List (Str × NameKind) → List (Str × Addr) → List (Str × Addr) → List (Str × Addr)
  | [], _, acc => acc
  | (n, k) :: r, cells, acc => if k == .free then capsOf r cells ((n, (cells.lookup n).getD 0) :: acc) else capsOf r cells acc
theorem capsOf_sub {cells : List (Str × Addr)} {x : Str} {c : Addr} : ∀ {names : List (Str × NameKind)} {acc : List (Str × Addr)}, (∀ y ∈ names, y.2 = .free → (cells.lookup y.1).isSome = true) → (capsOf names cells acc).lookup x = some c →
    acc.lookup x = some c ∨ cells.lookup x = some c
  | [], _, _, h => .inl h
  | (n, k) :: r, acc, hf, h => by
    have hr : ∀ y ∈ r, y.2 = .free → (cells.lookup y.1).isSome = true := fun y hy => hf y (List.mem_cons_of_mem _ hy)
    unfold capsOf at h
    by_cases hk : (k == NameKind.free) = true
    · rw [if_pos hk] at h
      rcases capsOf_sub hr h with q | q
      · by_cases hx : (x == n) = true
        · rw [List.lookup_cons, hx] at q
          have e : x = n := beq_iff_eq.mp hx
          subst e
          have z := hf (x, k) (by simp) (beq_iff_eq.mp hk)
          obtain ⟨a, ha⟩ := Option.isSome_iff_exists.mp z
          have ha' : cells.lookup x = some a := ha
          rw [ha'] at q
          right
          rw [ha']
          exact q
        · rw [List.lookup_cons, Bool.eq_false_iff.mpr hx] at q
          exact .inl q
      · exact .inr q
    · rw [if_neg hk] at h
      exact capsOf_sub hr h
theorem capsOf_acc {cells : List (Str × Addr)} {x : Str} : ∀ {names : List (Str × NameKind)} {acc : List (Str × Addr)}, (∃ c, acc.lookup x = some c) → ∃ c, (capsOf names cells acc).lookup x = some c
  | [], _, h => h
  | (n, k) :: r, acc, ⟨c, h⟩ => by
    unfold capsOf
    by_cases hk : (k == NameKind.free) = true
    · rw [if_pos hk]
      refine capsOf_acc ?_
      by_cases hx : (x == n) = true
      · exact ⟨_, by rw [List.lookup_cons, hx]⟩
      · exact ⟨c, by rw [List.lookup_cons, Bool.eq_false_iff.mpr hx]; exact h⟩
    · rw [if_neg hk]
      exact capsOf_acc ⟨c, h⟩
theorem capsOf_has {cells : List (Str × Addr)} {x : Str} : ∀ {names : List (Str × NameKind)} {acc : List (Str × Addr)}, (x, NameKind.free) ∈ names → ∃ c, (capsOf names cells acc).lookup x = some c
  | (n, k) :: r, acc, h => by
    unfold capsOf
    rcases List.mem_cons.mp h with e | h
    · cases e
      rw [if_pos (by decide)]
      exact capsOf_acc ⟨_, by rw [List.lookup_cons, beq_self_eq_true]⟩
    · by_cases hk : (k == NameKind.free) = true
      · rw [if_pos hk]; exact capsOf_has h
      · rw [if_neg hk]; exact capsOf_has h
theorem closure_loop {env : Env} : ∀ (names : List (Str × NameKind)) (acc : List (Str × Addr)), (∀ y ∈ names, y.2 = .free → (env.cells.lookup y.1).isSome = true) →
    (forIn names acc fun (y : Str × NameKind) (r : List (Str × Addr)) => if (y.2 == NameKind.free) = true then (do let a ← cellOf env y.1; pure (ForInStep.yield ((y.1, a) :: r))) else (pure (ForInStep.yield r) : Sem (ForInStep (List (Str × Addr))))) = pure (capsOf names env.cells acc)
  | [], acc, _ => rfl
  | (n, k) :: r, acc, hf => by
    have hr : ∀ y ∈ r, y.2 = .free → (env.cells.lookup y.1).isSome = true := fun y hy => hf y (List.mem_cons_of_mem _ hy)
    rw [List.forIn_cons]
    unfold capsOf
    by_cases hk : (k == NameKind.free) = true
    · obtain ⟨a, ha⟩ := Option.isSome_iff_exists.mp (hf (n, k) (by simp) (beq_iff_eq.mp hk))
      have ha' : env.cells.lookup n = some a := ha
      rw [if_pos hk]
      dsimp only
      rw [if_pos hk, ha']
      have e : cellOf env n = pure a := by unfold cellOf; rw [ha']
      rw [e]
      exact closure_loop r _ hr
    · rw [if_neg hk, if_neg hk]
      exact closure_loop r _ hr
theorem closure_caps {sc : Scope} {env : Env} (hf : ∀ y ∈ sc.names, y.2 = .free → (env.cells.lookup y.1).isSome = true) : closureFor sc env = pure (capsOf sc.names env.cells []) := by
  unfold closureFor
  have h := closure_loop (env := env) sc.names [] hf
  dsimp only
  have e := congrArg (fun t : Sem (List (Str × Addr)) => t >>= fun r => pure r) h
  exact e
end L2
set_option Elab.async false
set_option linter.all false
set_option maxRecDepth 100000
set_option maxHeartbeats 4000000
namespace L2
open PySem PySem.Spec PySem.Calls PyProof.Rows
structure CArg where
  C : Addr
  s₀ : Shared
  H₀ : Hp
  fp : List Addr
def Cx.comp (X : Cx) (sc : Scope) (N : List Str) (c : CArg) : Cx :=
  { X with N := N, s₀ := c.s₀, H₀ := c.H₀, env := compEnvC sc (capsOf sc.names X.env.cells []) c.C X.env, outer := X.stack, stack := X.stack, ex := c.fp, fn := fun _ => false, pn := [], xe := fun _ _ => False }
structure CompOk (SX sc : Scope) (XN N : List Str) (nt : Nat) (caps : List Nat) : Prop where
  kind : sc.kind = .function
  nocell : ∀ y ∈ sc.names, y.2 ≠ .cell
  loc : ∀ y ∈ sc.names, y.2 = .local → sc.names.lookup y.1 = some .local
  free : ∀ y ∈ sc.names, y.2 = .free → SX.names.lookup y.1 = some .cell ∨ SX.names.lookup y.1 = some .free
  len : N.length = nt + caps.length
  cap : ((List.range caps.length).all fun j => match N[nt + j]?, XN[caps.getD j 0]? with
    | some x, some y => x == y && sc.names.lookup x == some .free
    | _, _ => false) = true
theorem mem_lookup {names : List (Str × NameKind)} {x : Str} {k : NameKind} (h : names.lookup x = some k) : (x, k) ∈ names := PySem.mem_of_lookup h
theorem relabel_lookup {env : Env} : ∀ {names : List (Str × NameKind)} {x : Str} {k : NameKind},
    (names.map fun (n, k) => if (k == NameKind.free && env.scope.kind == .function && env.kindOf n == some .cell) = true then (n, NameKind.cell) else (n, k)).lookup x = some k → names.lookup x = some k ∨ (k = .cell ∧ names.lookup x = some .free)
  | [], _, _, h => by simp at h
  | (n, k0) :: r, x, k, h => by
    rw [List.map_cons] at h
    by_cases hx : (x == n) = true
    · by_cases hc : (k0 == NameKind.free && env.scope.kind == .function && env.kindOf n == some .cell) = true
      · dsimp only at h
        rw [if_pos hc, List.lookup_cons, hx] at h
        cases h
        right
        refine ⟨rfl, ?_⟩
        rw [List.lookup_cons, hx]
        simp only [Bool.and_eq_true, beq_iff_eq] at hc
        rw [hc.1.1]
      · dsimp only at h
        rw [if_neg hc, List.lookup_cons, hx] at h
        left
        rw [List.lookup_cons, hx]
        exact h
    · have hx' := Bool.eq_false_iff.mpr hx
      have e : ∀ q : Str × NameKind, q.1 = n → List.lookup x (q :: (r.map fun (n, k) => if (k == NameKind.free && env.scope.kind == .function && env.kindOf n == some .cell) = true then (n, NameKind.cell) else (n, k))) = List.lookup x (r.map fun (n, k) => if (k == NameKind.free && env.scope.kind == .function && env.kindOf n == some .cell) = true then (n, NameKind.cell) else (n, k)) := by
        intro q hq
        obtain ⟨a, b⟩ := q
        dsimp only at hq
        subst hq
        rw [List.lookup_cons, hx']
      rw [e _ (by dsimp only; split <;> rfl)] at h
      rcases relabel_lookup h with z | z
      · left; rw [List.lookup_cons, hx']; exact z
      · right; refine ⟨z.1, ?_⟩; rw [List.lookup_cons, hx']; exact z.2
theorem relabel_free {env : Env} : ∀ {names : List (Str × NameKind)} {x : Str}, names.lookup x = some .free →
    (names.map fun (n, k) => if (k == NameKind.free && env.scope.kind == .function && env.kindOf n == some .cell) = true then (n, NameKind.cell) else (n, k)).lookup x = some .cell ∨
    (names.map fun (n, k) => if (k == NameKind.free && env.scope.kind == .function && env.kindOf n == some .cell) = true then (n, NameKind.cell) else (n, k)).lookup x = some .free
  | [], _, h => by simp at h
  | (n, k0) :: r, x, h => by
    rw [List.map_cons]
    by_cases hx : (x == n) = true
    · rw [List.lookup_cons, hx] at h
      cases h
      dsimp only
      by_cases hc : (NameKind.free == NameKind.free && env.scope.kind == .function && env.kindOf n == some .cell) = true
      · left; rw [if_pos hc, List.lookup_cons, hx]
      · right; rw [if_neg hc, List.lookup_cons, hx]
    · have hx' := Bool.eq_false_iff.mpr hx
      rw [List.lookup_cons, hx'] at h
      dsimp only
      split
      · rw [List.lookup_cons, hx']; exact relabel_free h
      · rw [List.lookup_cons, hx']; exact relabel_free h
theorem comp_loop {prog : Program} {w : World} {A : Around} {R : Result → Shared → Prop} {s : Shared} {elt target iter : Expr} {ifs : List Expr} {scope : Scope} {pos : Pos} {it acc : Value} {env : Env} (J : Nat → Shared → Prop)
    (turn : ∀ n s, J n s → wpAny (model prog w) A (pyNext it) (fun r s₁ => match r with
      | none => R (.ok .next) s₁
      | some v => wpAny (model prog w) A (letOwnedTupleGo target it v) (fun _ s1' => wpAny (model prog w) A (assign target env v) (fun _ s₂ =>
          wpAny (model prog w) A (forIn ifs true fun c r => if r = true then do let ok ← isTrue c env (eval c env); pure (ForInStep.yield ok) else pure (ForInStep.yield r)) (fun ok s₃ =>
            if ok = true then wpAny (model prog w) A (eval elt env) (fun x s₄ => wpAny (model prog w) A (call (.builtin "list.append") [acc, x]) (fun _ s₅ => ∃ m, m < n ∧ J m s₅) (fun _ _ => False) s₄) (fun _ _ => False) s₃
            else ∃ m, m < n ∧ J m s₃) (fun _ _ => False) s₂) (fun _ _ => False) s1') (fun _ _ => False) s₁) (fun _ _ => False) s)
    (n : Nat) (h : J n s) : codeAny (model prog w) A (.compLoop (.ListComp elt [⟨target, iter, ifs, 0⟩] scope pos) 0 it acc env) R s := by
  refine codeAny_loop rfl J (fun n s hJ => ?_) n h
  show wpAny _ A ((compTurn (.ListComp elt [⟨target, iter, ifs, 0⟩] scope pos) 0 it acc env).onRaise (fun x => do noteFrame x env; theTreesLotGoes x)) _ _ s
  refine wpAny_noted ?_
  rw [compTurn_list]
  refine wpAny_bind (wpAny_standAt (wpAny_bind (wpAny_mono (turn n s hJ) (fun r s₁ h₁ => ?_) fun _ _ z => z.elim)))
  cases r with
  | none => exact wpAny_pure h₁
  | some v =>
    refine wpAny_bind (wpAny_mono h₁ (fun _ s1' h1' => ?_) fun _ _ z => z.elim)
    refine wpAny_bind (wpAny_mono h1' (fun _ s₂ h₂ => ?_) fun _ _ z => z.elim)
    refine wpAny_bind (wpAny_mono h₂ (fun ok s₃ h₃ => ?_) fun _ _ z => z.elim)
    cases ok with
    | false => exact wpAny_pure ⟨rfl, h₃⟩
    | true =>
      refine wpAny_bind (wpAny_bind (wpAny_mono h₃ (fun x s₄ h₄ => ?_) fun _ _ z => z.elim))
      refine wpAny_bind (wpAny_mono h₄ (fun _ s₅ h₅ => ?_) fun _ _ z => z.elim)
      exact wpAny_pure (wpAny_pure ⟨rfl, h₅⟩)
section
variable {X : Cx} {pins : List (Addr × Obj)} {σ : St} {H : Hp} {s : Shared} {sc : Scope} {N XN : List Str} {nt : Nat} {caps : List Nat} {SX : Scope}
def capSt (nt : Nat) (caps : List Nat) (σ : St) : St := List.replicate nt none ++ caps.map fun i => σ.getD i none
theorem CompOk.hf (S : CompOk SX sc XN N nt caps) (I : Inv X pins σ H s) (hX : X.env.scope = SX) : ∀ y ∈ sc.names, y.2 = .free → (X.env.cells.lookup y.1).isSome = true := fun y hy hk => by
  have q := S.free y hy hk
  rw [← hX] at q
  obtain ⟨c, e⟩ := I.ok.has y.1 q
  rw [e]; rfl
theorem Inv.enter (S : CompOk SX sc XN N nt caps) (hX : X.env.scope = SX) (hN : X.N = XN) (I : Inv X pins σ H s) {fp : List Addr} (hf : ∀ b ∈ fp, FpOk X pins H b) (hlt : ∀ b ∈ fp, b < s.heap.objs.size) {h' : Heap} {t' : Nat} {m' : Str → Option Value}
    (hn : h'.Ns s.heap.objs.size m') (hk : ∀ b o, s.heap.get? b = some o → h'.get? b = some o) : Inv (X.comp sc N ⟨s.heap.objs.size, s, H, fp⟩) pins (capSt nt caps σ) H { s with heap := h', toks := t' } := by
  have hfr := S.hf I hX
  have sub : ∀ x c, (capsOf sc.names X.env.cells []).lookup x = some c → X.env.cells.lookup x = some c := fun x c e => by
    rcases capsOf_sub hfr e with q | q
    · cases q
    · exact q
  have frs_lt : ∀ b ∈ frs X.stack, b < s.heap.objs.size := fun b hb => by
    obtain ⟨_, o, e, _⟩ := I.stack.mem hb
    exact Heap.lt_size e
  have cells_lt : ∀ x c, X.env.cells.lookup x = some c → c < s.heap.objs.size := fun x c e => by
    obtain ⟨v, z⟩ := I.cell x c e
    exact z.lt
  have offS : ∀ b, b ≠ X.env.locals → b ∉ X.fs → b ∉ frs X.stack := fun b h1 h2 z => by
    rcases List.mem_cons.mp (I.stkSub b z) with q | q
    · exact h1 q
    · exact h2 q
  have hex : ∀ x, ((relabel sc X.env).names.lookup x = some .cell ∨ (relabel sc X.env).names.lookup x = some .free) → ∃ c, (capsOf sc.names X.env.cells []).lookup x = some c := fun x hx => by
    have fr : sc.names.lookup x = some .free := by
      rcases hx with hx | hx
      · rcases relabel_lookup (names := sc.names) hx with z | z
        · exact absurd rfl (S.nocell _ (mem_lookup z))
        · exact z.2
      · rcases relabel_lookup (names := sc.names) hx with z | z
        · exact z
        · cases z.1
    exact capsOf_has (mem_lookup fr)
  refine ⟨⟨I.ok.mod, S.kind, I.ok.glob, I.ok.blt, Nat.le_refl _, fun x y c e1 e2 => I.ok.inj x y c (sub x c e1) (sub y c e2), hex, fun x c e => (by cases e), I.ok.hd, I.ok.frames, .inl rfl, fun b hb => ?_, fun b o e => I.bs b o e, Nat.le_trans I.ok.bsz I.sz, fun b o e hb => ?_, fun b hb => ?_, I.stack, I.stkFree⟩,
    rfl, I.bare, Un.kept hk, ⟨m', hn, fun i x v e1 e2 e3 => ?_⟩, fun x c e => ?_, I.hok.fresh (Nat.le_refl _), fun x c e => I.freeC x c (sub x c e), fun p hp => ?_, I.hok.kept hk, ?_⟩
  · obtain ⟨f0, f1, f2, f3, f4, f5⟩ := hf b hb
    refine ⟨?_, fun x c e => f4 x c (sub x c e)⟩
    exact Nat.ne_of_lt (hlt b hb)
  · obtain ⟨f0, f1, f2, f3, f4, f5⟩ := hf b hb
    rcases f3 with z | z
    · exact I.ok.noex b o e z
    · exact absurd (Nat.lt_of_lt_of_le (Heap.lt_size e) (Nat.le_trans I.ok.bsz z)) (Nat.lt_irrefl _)
  · obtain ⟨f0, f1, f2, f3, f4, f5⟩ := hf b hb
    exact offS b f1 f2
  · -- a name that is taken over
    unfold capSt at e2
    by_cases hi : i < nt
    · rw [List.getElem?_append_left (by simpa using hi), List.getElem?_replicate] at e2
      split at e2 <;> cases e2
    · rw [List.getElem?_append_right (by simpa using hi), List.length_replicate, List.getElem?_map] at e2
      obtain ⟨j, rfl⟩ : ∃ j, i = nt + j := ⟨i - nt, by omega⟩
      rw [Nat.add_sub_cancel_left] at e2
      cases ec : caps[j]? with
      | none => rw [ec] at e2; cases e2
      | some ci =>
        rw [ec] at e2
        have e2' : σ.getD ci none = some v := by simpa using e2
        have hj : j < caps.length := (List.getElem?_eq_some_iff.mp ec).1
        have q := List.all_eq_true.mp S.cap j (List.mem_range.mpr hj)
        have ed : caps.getD j 0 = ci := by rw [List.getD_eq_getElem?_getD, ec]; rfl
        have e1' : N[nt + j]? = some x := e1
        rw [e1', ed] at q
        cases ex : XN[ci]? with
        | none => rw [ex] at q; cases q
        | some y =>
          rw [ex] at q
          simp only [Bool.and_eq_true, beq_iff_eq] at q
          obtain ⟨rfl, qf⟩ := q
          have eσ : σ[ci]? = some (some v) := by
            rw [List.getD_eq_getElem?_getD] at e2'
            cases z : σ[ci]? with
            | none => rw [z] at e2'; cases e2'
            | some w' => rw [z] at e2'; exact congrArg some e2'
          obtain ⟨m, hm, hl⟩ := I.loc
          have vis := S.free _ (mem_lookup qf) rfl
          rw [← hX] at vis
          obtain ⟨u, r, lk⟩ := hl ci x v (by rw [hN]; exact ex) eσ (.inr vis)
          refine ⟨u, r, .inr ⟨relabel_free qf, ?_⟩⟩
          obtain ⟨c, hc⟩ := capsOf_has (cells := X.env.cells) (acc := []) (mem_lookup qf)
          have hc' := sub x c hc
          rcases lk with ⟨k, _⟩ | ⟨k, c2, ec2, z⟩
          · exfalso
            have k' : X.env.scope.names.lookup x = some .local := k
            dsimp only at vis
            rcases vis with v1 | v1
            · rw [k'] at v1; cases v1
            · rw [k'] at v1; cases v1
          · rw [hc'] at ec2
            cases ec2
            obtain ⟨o, ho, hd⟩ := z
            exact ⟨c, hc, o, hk c o ho, hd⟩
  · obtain ⟨v, o, ho, hd⟩ := I.cell x c (sub x c e)
    exact ⟨v, o, hk c o ho, hd⟩
  · obtain ⟨e, n, ne, nf, d⟩ := I.pin p (List.mem_append_right _ (show p ∈ pins from (List.mem_append.mp hp).elim (fun z => absurd (show p ∈ ([] : List (Addr × Obj)) from z) (by simp)) id))
    exact ⟨hk _ _ e, n, Nat.ne_of_lt (Heap.lt_size e), offS _ ne nf, d⟩
  · unfold capSt
    rw [List.length_append, List.length_replicate, List.length_map]
    exact S.len.symm
end
def tComp (nt : Nat) (caps : List Nat) (wi : TI) (g : CArg → TG) (tc : CArg → TT) (te : CArg → TE) : TE := fun σ H Q => wi σ H fun J H1 => ∀ D, H1 D = none → ∀ c : CArg, ∃ W : Nat → Nat → St → List V → Hp → Prop,
  (∃ m, W 0 m (capSt nt caps σ) [] (upd H1 D (.lst []))) ∧ ∀ i m σ' ys H', W i m σ' ys H' → H' D = some (.lst ys) ∧ ys.length < sizeLine ∧
    ((J.stop i H' ∧ Q (.ref D) H') ∨ (J.go i H' ∧ ∀ x H2, J.yld i H' x H2 → g c x σ' H2 fun σ3 H3 => tc c σ3 H3 fun b H4 => if b = true then te c σ3 H4 fun y H5 => ∃ ys', H5 D = some (.lst ys') ∧ ys'.length < sizeLine ∧ ∃ m', m' < m ∧ W (i + 1) m' σ3 (ys' ++ [y]) (upd H5 D (.lst (ys' ++ [y])))
      else ∃ ys' m', m' < m ∧ W (i + 1) m' σ3 ys' H4))
def tTrue : CArg → TT := fun _ _ H Q => Q true H
section
variable {X : Cx} {tg iter elt : Expr} {ifs : List Expr} {sc SX : Scope} {N XN : List Str} {nt : Nat} {caps : List Nat} {wi : TI} {g : CArg → TG} {tc : CArg → TT} {te : CArg → TE} {pos : Pos}
def PTs (X : Cx) (ifs : List Expr) (t : TT) : Prop := ∀ (pins : List (Addr × Obj)) (s : Shared) (σ : St) (H : Hp) (Q : Bool → Hp → Prop), Inv X pins σ H s → t σ H Q →
  wpAny (model X.prog X.w) X.A (forIn ifs true fun c r => if r = true then do let ok ← isTrue c X.env (eval c X.env); pure (ForInStep.yield ok) else pure (ForInStep.yield r)) (TP X pins σ Q) X.xe s
theorem pts_nil {c : CArg} : PTs X [] (tTrue c) := fun pins s σ H Q I h => wpAny_tests_nil ⟨H, I, h⟩
theorem pts_one {c : Expr} {t : TT} (h : PT X c t) : PTs X [c] t := fun pins s σ H Q I hq => wpAny_tests_one (h pins s σ H Q I hq)
theorem comp_block {pins : List (Addr × Obj)} {σ : St} {H2 : Hp} {s2 : Shared} {it : Addr} {fp : List Addr} {tn : Nat → Heap → Prop} {J : It} {Q : VK} {RR : Value → Addr → Result → Shared → Prop} {E : Value → Shared → Prop}
    (S : CompOk SX sc XN N nt caps) (hX : X.env.scope = SX) (hN : X.N = XN) (hc : X.calm = true) (hg : ∀ c, PG (X.comp sc N c) tg (g c)) (ht : ∀ c, PTs (X.comp sc N c) ifs (tc c)) (he : ∀ c, PE (X.comp sc N c) elt (te c))
    (I2 : Inv X pins σ H2 s2) (T : Turn X.prog X.w X.K tg J fp it tn) (st2 : tn 0 s2.heap) (f2 : ∀ b ∈ fp, FpOk X pins H2 b)
    (h : ∀ D, H2 D = none → ∀ c : CArg, ∃ W : Nat → Nat → St → List V → Hp → Prop,
      (∃ m, W 0 m (capSt nt caps σ) [] (upd H2 D (.lst []))) ∧ ∀ i m σ' ys H', W i m σ' ys H' → H' D = some (.lst ys) ∧ ys.length < sizeLine ∧
      ((J.stop i H' ∧ Q (.ref D) H') ∨ (J.go i H' ∧ ∀ x H2, J.yld i H' x H2 → g c x σ' H2 fun σ3 H3 => tc c σ3 H3 fun b H4 => if b = true then te c σ3 H4 fun y H5 => ∃ ys', H5 D = some (.lst ys') ∧ ys'.length < sizeLine ∧ ∃ m', m' < m ∧ W (i + 1) m' σ3 (ys' ++ [y]) (upd H5 D (.lst (ys' ++ [y])))
        else ∃ ys' m', m' < m ∧ W (i + 1) m' σ3 ys' H4)))
    (hR : ∀ D C s' m H', s'.heap.Ns C m → s2.heap.objs.size < C → Inv X pins σ H' s' → H' C = none → C ≠ X.env.locals → (∀ x c, X.env.cells.lookup x = some c → c ≠ C) → (∀ p ∈ X.pn ++ pins, p.1 ≠ C) → X.s₀.heap.objs.size ≤ C → Q (.ref D) H' → RR (.ref D) C (.ok .next) s') :
    wpAny (model X.prog X.w) X.A (newList []) (fun acc s₃ => wpAny (model X.prog X.w) X.A (newFunctionEnv sc X.env.globals (capsOf sc.names X.env.cells []) [] X.env.qual none .none (some X.env)) (fun cenv s₄ =>
      codeAny (model X.prog X.w) X.A (.compStart (.ListComp elt [⟨tg, iter, ifs, 0⟩] sc pos) 0 (.ref it) acc { cenv with scope := relabel sc X.env }) (RR acc cenv.locals) s₄) E s₃) E s2 := by
  have lt2 : ∀ b ∈ fp, b < s2.heap.objs.size := fun b hb => by
    obtain ⟨o, e, _⟩ := T.obj _ _ st2 b hb
    exact Heap.lt_size e
  have hD0 : H2 s2.heap.objs.size = none := I2.hok.fresh (Nat.le_refl _)
  have I3 : Inv X pins σ (upd H2 s2.heap.objs.size (.lst [])) { s2 with heap := s2.heap.push { cls := .type "list", dict := none, data := .seq ([] : List Value).toArray } } :=
    I2.laid (t' := s2.toks) (fun b u e => Heap.get?_push_of_some _ e) (Nat.le_refl _) ⟨Nat.zero_le _, [], 0, .nil, Heap.get?_push_size _ rfl⟩
  have f3 : ∀ b ∈ fp, FpOk X pins (upd H2 s2.heap.objs.size (.lst [])) b := fun b hb => ⟨by rw [upd_ne (Nat.ne_of_lt (lt2 b hb))]; exact (f2 b hb).1, (f2 b hb).2⟩
  refine wpAny_newObj_type (wpAny_newFunctionEnv S.nocell (by intro y hy; simp at hy) (fun h1 hn1 hs1 => ?_) S.kind)
  dsimp only at hn1 hs1 ⊢
  generalize hg3 : ({ s2 with heap := s2.heap.push { cls := .type "list", dict := none, data := .seq ([] : List Value).toArray } } : Shared) = s3 at I3
  have e3 : s2.heap.push { cls := .type "list", dict := none, data := .seq ([] : List Value).toArray } = s3.heap := by rw [← hg3]
  rw [e3] at hn1 hs1 ⊢
  have lt3 : ∀ b ∈ fp, b < s3.heap.objs.size := fun b hb => by
    rw [← e3, Heap.size_push]
    exact Nat.lt_succ_of_lt (lt2 b hb)
  have hC2 : s2.heap.objs.size < s3.heap.objs.size := by rw [← e3, Heap.size_push]; exact Nat.lt_succ_self _
  have hk : ∀ b o, s3.heap.get? b = some o → h1.get? b = some o := fun b o e => hs1.extBut b o (Nat.ne_of_lt (Heap.lt_size e)) (Heap.get?_push_of_some _ e)
  have I4 := I3.enter S hX hN f3 lt3 (t' := s2.toks + ([] : List (Str × Value)).length) hn1 hk
  have fin : ∀ {s' : Shared} {σ' : St} {H' : Hp}, Inv (X.comp sc N ⟨s3.heap.objs.size, s3, upd H2 s2.heap.objs.size (.lst []), fp⟩) pins σ' H' s' → Q (.ref s2.heap.objs.size) H' → RR (.ref s2.heap.objs.size) s3.heap.objs.size (.ok .next) s' := fun {s' σ' H'} I' q => by
    obtain ⟨m, hm, _⟩ := I'.loc
    refine hR _ _ s' m H' hm hC2 (I3.call' (ch := fp) I'.os I'.base I'.hok I'.bare fun b hb => ?_) I'.free (Nat.ne_of_gt I3.lt) (fun x c e => ?_) (fun p hp => ?_) I3.sz q
    · obtain ⟨g0, g1, g2, g3, g4, g5⟩ := f3 b hb
      exact ⟨g3, g1, g4, g5⟩
    · obtain ⟨v, z⟩ := I3.cell x c e
      exact Nat.ne_of_lt z.lt
    · exact Nat.ne_of_lt (Heap.lt_size (I3.pin p hp).1)
  have subc : ∀ x c, (capsOf sc.names X.env.cells []).lookup x = some c → X.env.cells.lookup x = some c := fun x c e => by
    rcases capsOf_sub (S.hf I3 hX) e with q | q
    · cases q
    · exact q
  obtain ⟨W, ⟨m0, w0⟩, step⟩ := h _ hD0 ⟨s3.heap.objs.size, s3, upd H2 s2.heap.objs.size (.lst []), fp⟩
  have stat : ∀ {H' : Hp}, (∀ b ∈ fp, H' b = none) → ∀ b ∈ fp, FpOk (X.comp sc N ⟨s3.heap.objs.size, s3, upd H2 s2.heap.objs.size (.lst []), fp⟩) pins H' b := fun {H'} hn b hb => by
    obtain ⟨g0, g1, g2, g3, g4, g5⟩ := f3 b hb
    refine ⟨hn b hb, Nat.ne_of_lt (lt3 b hb), fun z => ?_, .inl hb, fun x c e => g4 x c (subc x c e), fun p hp => g5 p (List.mem_append_right _ ((List.mem_append.mp hp).elim (fun z => absurd (show p ∈ ([] : List (Addr × Obj)) from z) (by simp)) id))⟩
    rcases List.mem_cons.mp (I3.stkSub b z) with q | q
    · exact g1 q
    · exact g2 q
  have st4 : tn 0 h1 := T.keep _ _ _ st2 fun b hb o e => hk b o (by rw [← e3]; exact Heap.get?_push_of_some _ e)
  have fr4 : ∀ b ∈ fp, upd H2 s2.heap.objs.size (.lst []) b = none := fun b hb => (f3 b hb).1
  have hs4 : ({ s2 with heap := h1, toks := s2.toks + ([] : List (Str × Value)).length } : Shared) = { s3 with heap := h1, toks := s2.toks + ([] : List (Str × Value)).length } := by rw [← hg3]
  rw [hs4]
  have loop : codeAny (model X.prog X.w) X.A (.compLoop (.ListComp elt [⟨tg, iter, ifs, 0⟩] sc pos) 0 (.ref it) (.ref s2.heap.objs.size) (compEnvC sc (capsOf sc.names X.env.cells []) s3.heap.objs.size X.env)) (RR (.ref s2.heap.objs.size) s3.heap.objs.size)
      { s3 with heap := h1, toks := s2.toks + ([] : List (Str × Value)).length } := by
    refine comp_loop (fun n s' => ∃ i σ' ys H', Inv (X.comp sc N ⟨s3.heap.objs.size, s3, upd H2 s2.heap.objs.size (.lst []), fp⟩) pins σ' H' s' ∧ tn i s'.heap ∧ (∀ b ∈ fp, H' b = none) ∧ W i n σ' ys H') ?_ m0 ⟨0, _, [], _, I4, st4, fr4, w0⟩
    rintro n s' ⟨i, σ', ys, H', I', st', fr', w'⟩
    obtain ⟨hD, hz, alt⟩ := step i n σ' ys H' w'
    rcases alt with ⟨stop, qn⟩ | ⟨go, turn⟩
    · refine thn (T.done (X.comp sc N ⟨s3.heap.objs.size, s3, upd H2 s2.heap.objs.size (.lst []), fp⟩) rfl rfl rfl hc i pins s' σ' H' _ I' (stat fr') st' stop) fun r s4 ⟨hr, J4⟩ => ?_
      subst hr
      exact fin J4 qn
    · refine thn (T.item (X.comp sc N ⟨s3.heap.objs.size, s3, upd H2 s2.heap.objs.size (.lst []), fp⟩) rfl rfl rfl hc i pins s' σ' H' _ I' (stat fr') st' go) fun r s4 ⟨u, hr, h4⟩ => ?_
      subst hr
      refine thn h4 fun _ s5 ⟨x, H5, I5, r5, y5, st5, fr5⟩ => ?_
      have I5' := I5.pinned (stat fr5) (T.obj _ _ st5)
      refine thn (hg _ _ s5 σ' H5 x u _ I5' r5 (turn x H5 y5)) fun _ s6 ⟨σ6, H6, I6, q6⟩ => ?_
      refine thn (ht _ _ s6 σ6 H6 _ I6 q6) fun ok s7 ⟨H7, I7, q7⟩ => ?_
      have again : ∀ {s8 : Shared} {H8 : Hp} {ys8 : List V} {m8 : Nat}, Inv (X.comp sc N ⟨s3.heap.objs.size, s3, upd H2 s2.heap.objs.size (.lst []), fp⟩) (pins ++ pinsAt fp s5.heap) σ6 H8 s8 → m8 < n → W (i + 1) m8 σ6 ys8 H8 →
          ∃ m, m < n ∧ ∃ i σ' ys H', Inv (X.comp sc N ⟨s3.heap.objs.size, s3, upd H2 s2.heap.objs.size (.lst []), fp⟩) pins σ' H' s8 ∧ tn i s8.heap ∧ (∀ b ∈ fp, H' b = none) ∧ W i m σ' ys H' := fun {s8 H8 ys8 m8} I8 hm w8 => by
        refine ⟨m8, hm, i + 1, σ6, ys8, H8, I8.unpinned, T.keep _ _ _ st5 fun b hb o e => (I8.pin (b, o) (List.mem_append_right _ (List.mem_append_right _ (mem_pinsAt hb e)))).1, fun b hb => ?_, w8⟩
        obtain ⟨o, e, d⟩ := T.obj _ _ st5 b hb
        exact (I8.pin (b, o) (List.mem_append_right _ (List.mem_append_right _ (mem_pinsAt hb e)))).2.1
      cases ok with
      | false =>
        obtain ⟨ys8, m8, hm, w8⟩ := q7
        exact again I7 hm w8
      | true =>
        refine thn (he _ _ s7 σ6 H7 _ I7 q7) fun y s8 ⟨v, H8, I8, r8, ys8, e8, z8, m8, hm, w8⟩ => ?_
        refine thn (mt_append (X := X.comp sc N ⟨s3.heap.objs.size, s3, upd H2 s2.heap.objs.size (.lst []), fp⟩) _ s8 σ6 H8 (.ref s2.heap.objs.size) [v] _ [y] (fun _ H9 => H9 = upd H8 s2.heap.objs.size (.lst (ys8 ++ [v]))) I8 rfl (.cons r8 .nil) ⟨_, ys8, v, rfl, rfl, e8, z8, rfl⟩)
          fun _ s9 ⟨_, H9, I9, _, e9⟩ => ?_
        subst e9
        exact again I9 hm w8
  exact codeAny_compStart_list loop (T.self X.A 0 _ _ _ st4 loop)
theorem pe_comp (S : CompOk SX sc XN N nt caps) (hi : PI X tg iter wi) (hg : ∀ c, PG (X.comp sc N c) tg (g c)) (ht : ∀ c, PTs (X.comp sc N c) ifs (tc c)) (he : ∀ c, PE (X.comp sc N c) elt (te c)) (hc : X.calm = true := by rfl) (hX : X.env.scope = SX := by rfl) (hN : X.N = XN := by rfl)
    (hs : ∀ x, foldedSetIterable iter X.env x = pure x := by intro _; rfl) : PE X (.ListComp elt [⟨tg, iter, ifs, 0⟩] sc pos) (tComp nt caps wi g tc te) := by
  intro pins s σ H Q I h
  rw [eval_ListComp]
  refine wpAny_comprehension_free (use := none) rfl hs (closure_caps (S.hf I hX)) S.kind S.loc (thn (hi pins s σ H _ I h) fun v s1 h1 => thn h1 fun itv s2 h2 => ?_)
  obtain ⟨it, fp, tn, J, H2, rfl, I2, T, st2, f2, h2⟩ := h2
  refine comp_block (RR := fun acc C => compPost (model X.prog X.w) X.A X.xe none (EP X pins σ Q) acc C) S hX hN hc hg ht he I2 T st2 f2 h2 fun D C s' m H' hm hC I' hf hL hcl hpn hs0 q => ?_
  refine ⟨m, hm, fun h'' hs'' => ⟨.ref D, H', I'.turned (it := C) (t' := s'.toks) (fun b o hb e => hs''.extBut b o hb e) hf hL (.inr hs0) hcl hpn, rfl, q⟩⟩
theorem ps_comp {y : Str} {py : Pos} {i : Nat} {spos : Pos} (S : CompOk SX sc XN N nt caps) (hnd : X.N.Nodup) (hix : X.N[i]? = some y) (hy : Loc X.env.scope y) (hi : PI X tg iter wi) (hg : ∀ c, PG (X.comp sc N c) tg (g c)) (ht : ∀ c, PTs (X.comp sc N c) ifs (tc c)) (he : ∀ c, PE (X.comp sc N c) elt (te c))
    (hsw : swapsWith (.ListComp elt [⟨tg, iter, ifs, 0⟩] sc pos) (some (.Name y py)) spos.line X.env = pure true := by rfl) (hc : X.calm = true := by rfl) (hX : X.env.scope = SX := by rfl) (hN : X.N = XN := by rfl)
    (hs : ∀ x, foldedSetIterable iter X.env x = pure x := by intro _; rfl) (hf : X.fn y = true ∨ X.env.scope.names.lookup y = some .local := by first | exact .inl rfl | exact .inr rfl) : PS X (.Assign [.Name y py] (.ListComp elt [⟨tg, iter, ifs, 0⟩] sc pos) spos) (tAsg (tComp nt caps wi g tc te) (gName i)) := by
  intro pins s σ H D I h
  rw [exec_Assign_Name_used _ _ _ _ hsw]
  refine wpAny_bind (wpAny_standAt (wpAny_bind ?_))
  show wpAny _ X.A (do let _ ← comprehension (.ListComp elt [⟨tg, iter, ifs, 0⟩] sc pos) sc X.env _ (newList []) false (eval iter X.env) (some (assign (.Name y py) X.env))) _ _ s
  refine wpAny_bind (wpAny_mono (wpAny_comprehension_free (use := some (assign (.Name y py) X.env)) (Q := fun _ s' => SP X pins D .next s') rfl hs (closure_caps (S.hf I hX)) S.kind S.loc (thn (hi pins s σ H _ I h) fun v s1 h1 => thn h1 fun itv s2 h2 => ?_)) (fun _ s' hq => wpAny_pure (wpAny_pure hq)) fun _ _ e => e)
  obtain ⟨it, fp, tn, J, H2, rfl, I2, T, st2, f2, h2⟩ := h2
  refine comp_block (Q := fun x H1 => gName i x σ H1 D.nx) (RR := fun acc C => compPost (model X.prog X.w) X.A X.xe (some (assign (.Name y py) X.env)) (fun _ s' => SP X pins D .next s') acc C) S hX hN hc hg ht he I2 T st2 f2 h2 fun D' C s' m H' hm hC I' hfC hL hcl hpn hs0 q => ?_
  show wpAny _ X.A (assign (.Name y py) X.env (.ref D')) _ _ s'
  refine wpAny_assign_Name (store_ok2 (v := .ref D') I' hnd hix hy rfl (fun s5 I5 hch => ?_) hf)
  obtain ⟨a, sb, ha⟩ := hch
  have hCa : C ≠ a := by
    rcases ha with z | z
    · rw [z]; exact hL
    · exact (hcl _ _ z).symm
  refine ⟨m, hm.sameBut sb hCa, fun h'' hs'' => ⟨σ.set i (some (.ref D')), H', I5.turned (it := C) (t' := s5.toks) (fun b o hb e => hs''.extBut b o hb e) hfC hL (.inr hs0) hcl hpn, q⟩⟩
end
end L2
set_option Elab.async false
set_option linter.all false
set_option maxRecDepth 100000
set_option maxHeartbeats 4000000
namespace L2
open PySem PySem.Spec PySem.Calls PyProof.Rows
section
variable {X : Cx} {pins : List (Addr × Obj)} {σ : St} {H : Hp} {s : Shared}
theorem Inv.drawn {fp : List Addr} {h' : Heap} {t' : Nat} {ds : List V} {us : List Value} {n : Nat} (I : Inv X pins σ H s) (hf : ∀ b ∈ fp, FpOk X pins H b) (kp : ∀ b o, b ∉ fp → s.heap.get? b = some o → h'.get? b = some o)
    (new : h'.get? s.heap.objs.size = some { cls := .type "tuple", data := .seq us.toArray n }) (r : Vals ds us) (hz : ds.length ≤ sizeLine) : Inv X pins σ (upd H s.heap.objs.size (.tup ds)) { s with heap := h', toks := t' } := by
  have hT : H s.heap.objs.size = none := I.hok.fresh (Nat.le_refl _)
  have nf : ∀ b u, H b = some u → b ∉ fp := fun b u e hb => by rw [(hf b hb).1] at e; cases e
  refine I.call (g' := s.gens) (d' := s.drawn) (ch := fp) ⟨fun b o e n hb hx => kp b o hx e, fun b o e n hb hx => ⟨o.slots, kp b o hx e⟩, fun b o e n hx => ?_, fun b o e hx => ⟨o, kp b o hx e⟩, fun b xs q => ?_, fun b o u q => ?_, fun b ps q => ?_⟩ ?_ I.bare (fun b hb => ?_)
  · rw [upd_ne (Nat.ne_of_lt (Heap.lt_size e))]; exact n
  · rw [upd_ne (ne_of_none q hT)]; exact q
  · rw [upd_ne (ne_of_none q hT)]; exact q
  · exact ⟨#[], by rw [upd_ne (ne_of_none q hT), q]; simp⟩
  · intro b u e
    by_cases hb : b = s.heap.objs.size
    · subst hb
      rw [upd_same] at e
      cases e
      exact ⟨hz, us, r, _, new, rfl, n, rfl⟩
    · rw [upd_ne hb] at e
      refine (I.hok b u e).stay (fun c v hc q => kp c v (fun z => ?_) q) (fun c q => ?_) fun c xs q => ?_
      · rcases hc with w' | w'
        · subst w'; exact nf _ _ e z
        · exact nf _ _ w' z
      · rw [upd_ne (ne_of_none q hT)]; exact q
      · rw [upd_ne (ne_of_none q hT)]; exact q
  · obtain ⟨f0, f1, f2, f3, f4, f5⟩ := hf b hb
    exact ⟨f3, f1, f4, f5⟩
theorem Inv.turnedL {fp : List Addr} {h' : Heap} {t' : Nat} (I : Inv X pins σ H s) (hf : ∀ b ∈ fp, FpOk X pins H b) (kp : ∀ b o, b ∉ fp → s.heap.get? b = some o → h'.get? b = some o) : Inv X pins σ H { s with heap := h', toks := t' } := by
  have nf : ∀ b u, H b = some u → b ∉ fp := fun b u e hb => by rw [(hf b hb).1] at e; cases e
  refine I.call (g' := s.gens) (d' := s.drawn) (ch := fp) ⟨fun b o e n hb hx => kp b o hx e, fun b o e n hb hx => ⟨o.slots, kp b o hx e⟩, fun b o e n hx => n, fun b o e hx => ⟨o, kp b o hx e⟩, fun b xs q => q, fun b o u q => q, fun b ps q => ⟨#[], by rw [q]; simp⟩⟩ ?_ I.bare (fun b hb => ?_)
  · intro b u e
    refine (I.hok b u e).stay (fun c v hc q => kp c v (fun z => ?_) q) (fun c q => q) fun c xs q => q
    rcases hc with w' | w'
    · subst w'; exact nf _ _ e z
    · exact nf _ _ w' z
  · obtain ⟨f0, f1, f2, f3, f4, f5⟩ := hf b hb
    exact ⟨f3, f1, f4, f5⟩
end
def Ite (K : PySem.W.Frag) (a : Addr) : It :=
  ⟨fun i H => ∃ xs x, SqL K H a xs ∧ xs[i]? = some x, fun i H x H' => ∃ T y, H T = none ∧ x = .ref T ∧ (∀ xs, SqL K H a xs → xs[i]? = some y) ∧ H' = upd H T (.tup [.int (i : Int), y]), fun i H => ∃ xs, SqL K H a xs ∧ xs.length ≤ i⟩
theorem turn_enum {P : Program} {w : World} {K : PySem.W.Frag} {es : List Expr} {x1 : Nat} {pos : Pos} (a e it : Addr) (hne : e ≠ it) : Turn P w K (.Tuple es x1 pos) (Ite K a) [e, it] e (fun i h => (∃ old, IsEnum h e it (i : Int) old) ∧ h.IsListIter it a i) where
  mem := by simp
  obj := fun i h st b hb => by
    obtain ⟨⟨old, h1⟩, o, h2, c, d⟩ := st
    rcases List.mem_cons.mp hb with z | z
    · subst z; exact ⟨_, h1, fun v z => by
        have z' : Data.fields _ = Data.cell v := z
        cases z'⟩
    · rw [List.mem_singleton.mp z]; exact ⟨o, h2, fun v z => by rw [d] at z; cases z⟩
  keep := fun i h h' st k => by
    obtain ⟨⟨old, h1⟩, h2⟩ := st
    exact ⟨⟨old, k e (by simp) _ h1⟩, h2.at fun o z => k it (by simp) o z⟩
  item := by
    intro X hP hw hK hc i pins s σ H E I hf st hg
    subst hP hw hK
    obtain ⟨xs, x, hq, hx⟩ := hg
    obtain ⟨its, rv, p, hz⟩ := I.list hq
    obtain ⟨u, hu, ru⟩ := rv.get hx
    obtain ⟨⟨old, he⟩, hit⟩ := st
    refine wpAny_pyNext_enum_item he hit p.isList (x := u) (by simpa using hu) hne fun h' out it' tup sz kp => ?_
    refine ⟨_, rfl, wpAny_letOwnedTupleGo_enum out fun h2 he2 sb => ?_⟩
    have heT : e ≠ s.heap.objs.size := Nat.ne_of_lt (Heap.lt_size he)
    have kp2 : ∀ b o, b ∉ [e, it] → s.heap.get? b = some o → h2.get? b = some o := fun b o hb q => by
      have b1 : b ≠ e := fun z => hb (by simp [z])
      have b2 : b ≠ it := fun z => hb (by simp [z])
      exact (sb.2 b b1).trans (kp b o b1 b2 q)
    refine ⟨.ref s.heap.objs.size, upd H s.heap.objs.size (.tup [.int (i : Int), x]), ?_, rfl, ⟨s.heap.objs.size, x, I.hok.fresh (Nat.le_refl _), rfl, fun ys hy => by rw [I.list_inj hy hq]; exact hx, rfl⟩, ⟨⟨u, by simpa using he2⟩, it'.at fun o z => (sb.2 it (Ne.symm hne)).trans z⟩, fun b hb => ?_⟩
    · exact I.drawn (t' := s.toks + 1) (us := [.int (i : Int) s.toks, u]) (n := 0) hf kp2 ((sb.2 _ (Ne.symm heT)).trans tup) (.cons ⟨_, rfl⟩ (.cons ru .nil)) (by show 2 ≤ sizeLine; decide)
    · have hl : b < s.heap.objs.size := by
        rcases List.mem_cons.mp hb with z | z
        · subst z; exact Heap.lt_size he
        · rw [List.mem_singleton.mp z]; obtain ⟨o, q, _⟩ := hit; exact Heap.lt_size q
      rw [upd_ne (Nat.ne_of_lt hl)]
      exact (hf b hb).1
  done := by
    intro X hP hw hK hc i pins s σ H E I hf st hg
    subst hP hw hK
    obtain ⟨xs, hq, hx⟩ := hg
    obtain ⟨its, rv, p, hz⟩ := I.list hq
    obtain ⟨⟨old, he⟩, hit⟩ := st
    have hl := rv.length
    refine wpAny_pyNext_enum_end (I.ok.hd hc) he hit p.isList (by simp; omega) fun h' eb => ⟨rfl, I.turnedL (t' := s.toks) hf fun b o hb q => eb b o (fun z => hb (by simp [z])) q⟩
  self := fun _ _ _ _ _ st h => by
    obtain ⟨⟨old, he⟩, _⟩ := st
    exact wpAny_pyIter_enum he h
def Itz (K : PySem.W.Frag) (a b : Addr) : It :=
  ⟨fun i H => ∃ xs ys x y, SqL K H a xs ∧ SqL K H b ys ∧ xs[i]? = some x ∧ ys[i]? = some y, fun i H v H' => ∃ T x y, H T = none ∧ v = .ref T ∧ (∀ xs, SqL K H a xs → xs[i]? = some x) ∧ (∀ ys, SqL K H b ys → ys[i]? = some y) ∧ H' = upd H T (.tup [x, y]),
    fun i H => ∃ xs ys, SqL K H a xs ∧ SqL K H b ys ∧ (xs.length ≤ i ∨ ys.length ≤ i)⟩
theorem turn_zip {P : Program} {w : World} {K : PySem.W.Frag} {es : List Expr} {x1 : Nat} {pos : Pos} (l1 l2 z TI TO i1 i2 : Addr) (D : ZipApart z TI TO i1 i2 l1 l2) :
    Turn P w K (.Tuple es x1 pos) (Itz K l1 l2) [z, TO, i1, i2, TI] z (fun i h => IsZip h z TI TO .none ∧ IsPair h TI (.ref i1) (.ref i2) ∧ (∃ a b, IsPair h TO a b) ∧ h.IsListIter i1 l1 i ∧ h.IsListIter i2 l2 i) where
  mem := by simp
  obj := fun i h st b hb => by
    obtain ⟨h1, h2, ⟨a, c, h3⟩, ⟨o4, e4, c4, d4⟩, ⟨o5, e5, c5, d5⟩⟩ := st
    have nf : ∀ {vs : Array Value} {v : Option Value}, Data.fields vs ≠ Data.cell v := fun z => by cases z
    have ns : ∀ {vs : Array Value} {n : Nat} {v : Option Value}, Data.seq vs n ≠ Data.cell v := fun z => by cases z
    simp only [List.mem_cons, List.not_mem_nil, or_false] at hb
    rcases hb with rfl | rfl | rfl | rfl | rfl
    · exact ⟨_, h1, fun v z => nf z⟩
    · exact ⟨_, h3, fun v z => ns z⟩
    · exact ⟨_, e4, fun v z => by rw [d4] at z; cases z⟩
    · exact ⟨_, e5, fun v z => by rw [d5] at z; cases z⟩
    · exact ⟨_, h2, fun v z => ns z⟩
  keep := fun i h h' st k => by
    obtain ⟨h1, h2, ⟨a, c, h3⟩, h4, h5⟩ := st
    exact ⟨k z (by simp) _ h1, k TI (by simp) _ h2, ⟨a, c, k TO (by simp) _ h3⟩, h4.at fun o q => k i1 (by simp) o q, h5.at fun o q => k i2 (by simp) o q⟩
  item := by
    intro X hP hw hK hc i pins s σ H E I hf st hg
    subst hP hw hK
    obtain ⟨xs, ys, x, y, hq1, hq2, hx, hy⟩ := hg
    obtain ⟨its1, rv1, p1, _⟩ := I.list hq1
    obtain ⟨its2, rv2, p2, _⟩ := I.list hq2
    obtain ⟨u, hu, ru⟩ := rv1.get hx
    obtain ⟨v, hv, rv⟩ := rv2.get hy
    obtain ⟨h1, h2, ⟨a, c, h3⟩, h4, h5⟩ := st
    have lts : ∀ b ∈ [z, TO, i1, i2, TI], b < s.heap.objs.size := fun b hb => by
      obtain ⟨_, e4, _⟩ := h4
      obtain ⟨_, e5, _⟩ := h5
      simp only [List.mem_cons, List.not_mem_nil, or_false] at hb
      rcases hb with rfl | rfl | rfl | rfl | rfl
      · exact Heap.lt_size h1
      · exact Heap.lt_size h3
      · exact Heap.lt_size e4
      · exact Heap.lt_size e5
      · exact Heap.lt_size h2
    refine wpAny_pyNext_zip_item D h1 h2 h3 h4 h5 p1.isList p2.isList (x := u) (y := v) (by simpa using hu) (by simpa using hv) fun h' g1 g2 g3 g4 g5 sz kp => ?_
    refine ⟨_, rfl, wpAny_letOwnedTupleGo_zip g1 fun hh gz sb => ?_⟩
    have zT : z ≠ s.heap.objs.size := Nat.ne_of_lt (lts z (by simp))
    have kp2 : ∀ b o, b ∉ [z, TO, i1, i2, TI] → s.heap.get? b = some o → hh.get? b = some o := fun b o hb q => by
      simp only [List.mem_cons, List.not_mem_nil, or_false, not_or] at hb
      exact (sb.2 b hb.1).trans (kp b o hb.1 hb.2.1 hb.2.2.1 hb.2.2.2.1 q)
    refine ⟨.ref s.heap.objs.size, upd H s.heap.objs.size (.tup [x, y]), ?_, rfl, ⟨s.heap.objs.size, x, y, I.hok.fresh (Nat.le_refl _), rfl, fun ws hw => by rw [I.list_inj hw hq1]; exact hx, fun ws hw => by rw [I.list_inj hw hq2]; exact hy, rfl⟩,
      ⟨gz, (sb.2 TI D.TIz).trans (kp TI _ D.TIz D.TITO D.TIi1 D.TIi2 h2), ⟨u, v, (sb.2 TO D.TOz).trans g2⟩, g3.at fun o q => (sb.2 i1 D.i1z).trans q, g4.at fun o q => (sb.2 i2 D.i2z).trans q⟩, fun b hb => ?_⟩
    · exact I.drawn (t' := s.toks) (us := [u, v]) (n := 0) hf kp2 ((sb.2 _ (Ne.symm zT)).trans g5) (.cons ru (.cons rv .nil)) (by show 2 ≤ sizeLine; decide)
    · rw [upd_ne (Nat.ne_of_lt (lts b hb))]
      exact (hf b hb).1
  done := by
    intro X hP hw hK hc i pins s σ H E I hf st hg
    subst hP hw hK
    obtain ⟨xs, ys, hq1, hq2, hx⟩ := hg
    obtain ⟨its1, rv1, p1, _⟩ := I.list hq1
    obtain ⟨its2, rv2, p2, _⟩ := I.list hq2
    obtain ⟨h1, h2, ⟨a, c, h3⟩, h4, h5⟩ := st
    have e1 := rv1.length
    have e2 := rv2.length
    refine wpAny_pyNext_zip_end (I.ok.hd hc) D h1 h2 h3 h4 h5 p1.isList p2.isList (hx.elim (fun q => .inl (by simp; omega)) fun q => .inr (by simp; omega)) fun h' kp => ⟨rfl, I.turnedL (t' := s.toks) hf fun b o hb q => ?_⟩
    simp only [List.mem_cons, List.not_mem_nil, or_false, not_or] at hb
    exact kp b o hb.1 hb.2.1 hb.2.2.1 hb.2.2.2.1 q
  self := fun _ _ _ _ _ st h => wpAny_pyIter_zip st.1 h
def iEnum (ta : TA) : TI := fun σ H R => ta σ H fun vs H1 => ∃ a xs, vs = [.ref a] ∧ Rd H1 a (.lst xs) ∧ ∀ K, R (Ite K a) H1
def iZip (K : PySem.W.Frag) (ta : TA) : TI := fun σ H R => ta σ H fun vs H1 => ∃ a b xs ys, vs = [.ref a, .ref b] ∧ SqL K H1 a xs ∧ SqL K H1 b ys ∧ R (Itz K a b) H1
section
variable {X : Cx} {es : List Expr} {x1 : Nat} {tpos : Pos}
theorem pi_enum {a : Expr} {ta : TA} {p pos : Pos} (hg : Gl X "enumerate") (hm : X.mg "enumerate" = none) (ha : PA X [a] ta) (hs : starEach [a] X.env = [(false, eval a X.env)] := by rfl) : PI X (.Tuple es x1 tpos) (.Call (.Name "enumerate" p) [a] [] pos) (iEnum ta) := by
  intro pins s σ H R I h
  refine Call_ (ld_blt I hg hm boot_enumerate (PyProof.Rows.callWith_type1 (thn (ha pos pins s σ H _ I h) fun us s1 ⟨vs, H1, I1, r1, q1⟩ => ?_) hs rfl))
  obtain ⟨l, xs, e, hl, q⟩ := q1
  subst e
  cases r1 with
  | cons r rr =>
    cases rr
    cases r
    obtain ⟨hz, its, n, rv, eo⟩ := hl.ok I1.hok
    refine call_enumerate_1 eo fun h' he hit sz kp => ?_
    refine wpAny_pyIter_enum he ?_
    have hne : s1.heap.objs.size + 1 ≠ s1.heap.objs.size := Nat.succ_ne_self _
    refine ⟨_, [s1.heap.objs.size + 1, s1.heap.objs.size], _, _, H1, rfl, I1.kept (t' := s1.toks) kp, turn_enum l _ _ hne, ⟨⟨.none, he⟩, hit⟩, fun b hb => ?_, q X.K⟩
    have hb' : s1.heap.objs.size ≤ b := by
      simp only [List.mem_cons, List.not_mem_nil, or_false] at hb
      rcases hb with rfl | rfl
      · exact Nat.le_succ _
      · exact Nat.le_refl _
    exact I1.fpOk hb' (I1.hok.fresh hb')
theorem pi_zip {a b : Expr} {ta : TA} {p pos : Pos} (hg : Gl X "zip") (hm : X.mg "zip" = none) (ha : PA X [a, b] ta) (hs : starEach [a, b] X.env = [(false, eval a X.env), (false, eval b X.env)] := by rfl) (hs2 : starEach [b] X.env = [(false, eval b X.env)] := by rfl) :
    PI X (.Tuple es x1 tpos) (.Call (.Name "zip" p) [a, b] [] pos) (iZip X.K ta) := by
  intro pins s σ H R I h
  refine Call_ (ld_blt I hg hm boot_zip (PyProof.Rows.callWith_type1 (thn (ha pos pins s σ H _ I h) fun us s1 ⟨vs, H1, I1, r1, q1⟩ => ?_) (by rw [hs, hs2]) (by rw [hs2]; rfl)))
  obtain ⟨l1, l2, xs, ys, e, hl1, hl2, q⟩ := q1
  subst e
  cases r1 with
  | cons r rr =>
    cases rr with
    | cons r' rr =>
      cases rr
      cases r
      cases r'
      obtain ⟨its1, rv1, p1, _⟩ := I1.list hl1
      obtain ⟨its2, rv2, p2, _⟩ := I1.list hl2
      have lt1 : l1 < s1.heap.objs.size := by obtain ⟨_, e, _⟩ := p1.isList; exact Heap.lt_size e
      have lt2 : l2 < s1.heap.objs.size := by obtain ⟨_, e, _⟩ := p2.isList; exact Heap.lt_size e
      refine call_zip_2 p1.isList p2.isList fun h' g1 g2 g3 g4 g5 sz kp => ?_
      refine wpAny_pyIter_zip g1 ?_
      refine ⟨_, [s1.heap.objs.size + 4, s1.heap.objs.size + 3, s1.heap.objs.size, s1.heap.objs.size + 1, s1.heap.objs.size + 2], _, _, H1, rfl, I1.kept (t' := s1.toks) kp, turn_zip l1 l2 _ _ _ _ _ (zipApart_new lt1 lt2), ⟨g1, g2, ⟨.none, .none, g3⟩, g4, g5⟩, fun b hb => ?_, q⟩
      have hb' : s1.heap.objs.size ≤ b := by
        simp only [List.mem_cons, List.not_mem_nil, or_false] at hb
        rcases hb with rfl | rfl | rfl | rfl | rfl
        · exact Nat.le_add_right _ _
        · exact Nat.le_add_right _ _
        · exact Nat.le_refl _
        · exact Nat.le_add_right _ _
        · exact Nat.le_add_right _ _
      exact I1.fpOk hb' (I1.hok.fresh hb')
end
end L2
set_option Elab.async false
set_option linter.all false
set_option maxRecDepth 100000
set_option maxHeartbeats 4000000
namespace L3
open PySem PySem.Spec PySem.Calls PyProof.Rows L2
inductive D where
  | non | bl (b : Bool) | int (i : Int) | str (x : Str) | raw (v : V)
  | tup (ds : List D) | lst (ds : List D)
  /-- dicts by keys that are ints and texts; by tuples of these; objects -/
  | dk (ks : List Key) (ds : List D) | dt (ks : List (List Key)) (ds : List D)
  | obj (C : Addr) (fs : List Str) (ds : List D)
  /-- an exception of the class at C -/
  | exc (C : Addr)
  /-- the script: a list of ints that is only read -/
  | scr (ns : List Int)
mutual
/-- v is d in the heap H -/
def Is (K : PySem.W.Frag) (H : Hp) : D → V → Prop
  | .non, v => v = .non
  | .bl b, v => v = .bl b
  | .int i, v => v = .int i
  | .str x, v => v = .str x
  | .raw u, v => v = u
  | .tup ds, v => ∃ a xs, v = .ref a ∧ SqT K H a xs ∧ IsL K H ds xs
  | .lst ds, v => ∃ a xs, v = .ref a ∧ Rd H a (.lst xs) ∧ IsL K H ds xs
  | .dk ks ds, v => ∃ a xs o, v = .ref a ∧ H a = some (.frz o (.dK (ks.zip xs))) ∧ ks.length = xs.length ∧ IsL K H ds xs
  | .dt ks ds, v => ∃ a xs, v = .ref a ∧ Rd H a (.dT (ks.zip xs)) ∧ ks.length = xs.length ∧ IsL K H ds xs
  | .obj C fs ds, v => ∃ a dx xs, v = .ref a ∧ H a = some (.ins C dx (fs.zip xs)) ∧ fs.length = xs.length ∧ IsL K H ds xs
  | .exc C, v => ∃ a, v = .ref a ∧ H a = some (xobj a (.ref C))
  | .scr ns, v => ∃ a, v = .ref a ∧ SqL K H a (ns.map V.int)
def IsL (K : PySem.W.Frag) (H : Hp) : List D → List V → Prop
  | [], xs => xs = []
  | d :: ds, xs => ∃ x r, xs = x :: r ∧ Is K H d x ∧ IsL K H ds r
end
section
variable {K : PySem.W.Frag} {H H' : Hp}
theorem same_rd {a : Addr} {u : HO} (e : Same H H') (h : Rd H a u) : Rd H' a u := by
  rcases h with h | ⟨o, h⟩
  · exact .inl (e _ _ h)
  · exact .inr ⟨o, e _ _ h⟩
theorem same_tup {a : Addr} {xs : List V} (e : Same H H') (h : SqT K H a xs) : SqT K H' a xs := by
  rcases h with (h | ⟨o, h⟩) | h
  · exact .inl (.inl (e _ _ h))
  · exact .inl (.inr ⟨o, e _ _ h⟩)
  · exact .inr h
mutual
theorem Is.mono (e : Same H H') : ∀ {d : D} {v : V}, Is K H d v → Is K H' d v
  | .non, _, h => by simp only [Is] at h ⊢; exact h
  | .bl _, _, h => by simp only [Is] at h ⊢; exact h
  | .int _, _, h => by simp only [Is] at h ⊢; exact h
  | .str _, _, h => by simp only [Is] at h ⊢; exact h
  | .raw _, _, h => by simp only [Is] at h ⊢; exact h
  | .tup ds, _, h => by simp only [Is] at h ⊢; obtain ⟨a, xs, e1, e2, e3⟩ := h; exact ⟨a, xs, e1, same_tup e e2, IsL.mono e e3⟩
  | .lst ds, _, h => by simp only [Is] at h ⊢; obtain ⟨a, xs, e1, e2, e3⟩ := h; exact ⟨a, xs, e1, same_rd e e2, IsL.mono e e3⟩
  | .dk ks ds, _, h => by simp only [Is] at h ⊢; obtain ⟨a, xs, o, e1, e2, e4, e3⟩ := h; exact ⟨a, xs, o, e1, e _ _ e2, e4, IsL.mono e e3⟩
  | .dt ks ds, _, h => by simp only [Is] at h ⊢; obtain ⟨a, xs, e1, e2, e4, e3⟩ := h; exact ⟨a, xs, e1, same_rd e e2, e4, IsL.mono e e3⟩
  | .obj C fs ds, _, h => by simp only [Is] at h ⊢; obtain ⟨a, dx, xs, e1, e2, e4, e3⟩ := h; exact ⟨a, dx, xs, e1, e _ _ e2, e4, IsL.mono e e3⟩
  | .exc C, _, h => by simp only [Is] at h ⊢; obtain ⟨a, e1, e2⟩ := h; exact ⟨a, e1, e _ _ e2⟩
  | .scr ns, _, h => by simp only [Is] at h ⊢; obtain ⟨a, e1, e2⟩ := h; exact ⟨a, e1, e.seq e2⟩
theorem IsL.mono (e : Same H H') : ∀ {ds : List D} {xs : List V}, IsL K H ds xs → IsL K H' ds xs
  | [], _, h => by simp only [IsL] at h ⊢; exact h
  | d :: ds, _, h => by
    simp only [IsL] at h ⊢
    obtain ⟨x, r, e1, e2, e3⟩ := h
    exact ⟨x, r, e1, Is.mono e e2, IsL.mono e e3⟩
end
theorem IsL.nil : IsL K H [] [] := by simp only [IsL]
theorem IsL.cons {d : D} {ds : List D} {x : V} {xs : List V} (h : Is K H d x) (t : IsL K H ds xs) : IsL K H (d :: ds) (x :: xs) := by
  simp only [IsL]; exact ⟨x, xs, rfl, h, t⟩
theorem IsL.len : ∀ {ds : List D} {xs : List V}, IsL K H ds xs → xs.length = ds.length
  | [], _, h => by simp only [IsL] at h; subst h; rfl
  | d :: ds, _, h => by
    simp only [IsL] at h
    obtain ⟨x, r, rfl, _, t⟩ := h
    simp [IsL.len t]
theorem IsL.get : ∀ {ds : List D} {xs : List V} {i : Nat} {d : D}, IsL K H ds xs → ds[i]? = some d → ∃ x, xs[i]? = some x ∧ Is K H d x
  | [], _, _, _, _, e => by simp at e
  | d :: ds, _, 0, d', h, e => by
    simp only [IsL] at h
    obtain ⟨x, r, rfl, h1, _⟩ := h
    simp at e
    subst e
    exact ⟨x, rfl, h1⟩
  | d :: ds, _, i + 1, d', h, e => by
    simp only [IsL] at h
    obtain ⟨x, r, rfl, _, t⟩ := h
    exact IsL.get (i := i) t (by simpa using e)
theorem IsL.append : ∀ {ds es : List D} {xs ys : List V}, IsL K H ds xs → IsL K H es ys → IsL K H (ds ++ es) (xs ++ ys)
  | [], _, _, _, h, t => by simp only [IsL] at h; subst h; exact t
  | d :: ds, es, _, ys, h, t => by
    simp only [IsL] at h
    obtain ⟨x, r, rfl, h1, h2⟩ := h
    exact IsL.cons h1 (IsL.append h2 t)
theorem IsL.take : ∀ {ds : List D} {xs : List V} (n : Nat), IsL K H ds xs → IsL K H (ds.take n) (xs.take n)
  | _, _, 0, _ => by simpa using IsL.nil
  | [], _, n + 1, h => by simp only [IsL] at h; subst h; simpa using IsL.nil
  | d :: ds, _, n + 1, h => by
    simp only [IsL] at h
    obtain ⟨x, r, rfl, h1, h2⟩ := h
    exact IsL.cons h1 (IsL.take n h2)
theorem IsL.drop : ∀ {ds : List D} {xs : List V} (n : Nat), IsL K H ds xs → IsL K H (ds.drop n) (xs.drop n)
  | _, _, 0, h => by simpa using h
  | [], _, n + 1, h => by simp only [IsL] at h; subst h; simpa using IsL.nil
  | d :: ds, _, n + 1, h => by
    simp only [IsL] at h
    obtain ⟨x, r, rfl, h1, h2⟩ := h
    exact IsL.drop n h2
theorem IsL.set : ∀ {ds : List D} {xs : List V} (i : Nat) {d : D} {x : V}, IsL K H ds xs → Is K H d x → IsL K H (ds.set i d) (xs.set i x)
  | [], _, _, _, _, h, _ => by simp only [IsL] at h; subst h; simpa using IsL.nil
  | d :: ds, _, 0, _, _, h, hx => by
    simp only [IsL] at h
    obtain ⟨x, r, rfl, h1, h2⟩ := h
    exact IsL.cons hx h2
  | d :: ds, _, i + 1, _, _, h, hx => by
    simp only [IsL] at h
    obtain ⟨x, r, rfl, h1, h2⟩ := h
    exact IsL.cons h1 (IsL.set i h2 hx)
theorem IsL.get_none {ds : List D} {xs : List V} {i : Nat} (h : IsL K H ds xs) (e : ds[i]? = none) : xs[i]? = none := by
  have := h.len
  rw [List.getElem?_eq_none_iff] at e ⊢
  omega
theorem IsL.get' {ds : List D} {xs : List V} {i : Nat} {x : V} (h : IsL K H ds xs) (e : xs[i]? = some x) : ∃ d, ds[i]? = some d ∧ Is K H d x := by
  cases q : ds[i]? with
  | none => rw [h.get_none q] at e; cases e
  | some d =>
    obtain ⟨y, e1, e2⟩ := h.get q
    rw [e] at e1
    cases e1
    exact ⟨d, rfl, e2⟩
end
structure Pur (F H F' H' : Hp) : Prop where
  ff : Same F F'
  fh : Same F' H'
  hh : Same H H'
  new : ∀ b, F' b ≠ none → F b ≠ none ∨ H b = none
theorem Pur.refl {F H : Hp} (h : Same F H) : Pur F H F H := ⟨Same.refl _, h, Same.refl _, fun _ q => .inl q⟩
theorem Pur.trans {F H F1 H1 F2 H2 : Hp} (a : Pur F H F1 H1) (b : Pur F1 H1 F2 H2) : Pur F H F2 H2 :=
  ⟨a.ff.trans b.ff, b.fh, a.hh.trans b.hh, fun c q => (b.new c q).elim (fun z => a.new c z) fun z => .inr (a.hh.free z)⟩
theorem Pur.lay {F H : Hp} (h : Same F H) {p : Addr} {o : HO} (hp : H p = none) : Pur F H (upd F p o) (upd H p o) := by
  have fp : F p = none := h.free hp
  refine ⟨fun b u e => ?_, fun b u e => ?_, fun b u e => ?_, fun b q => ?_⟩
  · rw [upd_ne (ne_of_none e fp)]; exact e
  · by_cases hb : b = p
    · subst hb; rw [upd_same] at e ⊢; exact e
    · rw [upd_ne hb] at e ⊢; exact h _ _ e
  · rw [upd_ne (ne_of_none e hp)]; exact e
  · by_cases hb : b = p
    · subst hb; exact .inr hp
    · rw [upd_ne hb] at q; exact .inl q
theorem Pur.layOwn {F H : Hp} (h : Same F H) {p : Addr} {o : HO} (hp : H p = none) : Pur F H F (upd H p o) := by
  refine ⟨Same.refl _, fun b u e => ?_, fun b u e => ?_, fun b q => .inl q⟩
  · rw [upd_ne (ne_of_none (h _ _ e) hp)]; exact h _ _ e
  · rw [upd_ne (ne_of_none e hp)]; exact e
def Sl (K : PySem.W.Frag) (F : Hp) (Γ : List (Option D)) (σ : L2.St) : Prop := ∀ (i : Nat) (d : D), Γ[i]? = some (some d) → ∃ v, σ[i]? = some (some v) ∧ Is K F d v
theorem Sl.mono {K : PySem.W.Frag} {F F' : Hp} {Γ : List (Option D)} {σ : L2.St} (h : Sl K F Γ σ) (e : Same F F') : Sl K F' Γ σ := fun i d q => by
  obtain ⟨v, h1, h2⟩ := h i d q
  exact ⟨v, h1, h2.mono e⟩
def tP (K : PySem.W.Frag) (Γ : List (Option D)) (d : D) : TE := fun σ H Q => ∃ F, Same F H ∧ Sl K F Γ σ ∧ ∀ v H' F', Pur F H F' H' → Is K F' d v → Q v H'
def tPT (K : PySem.W.Frag) (Γ : List (Option D)) (b : Bool) : TT := fun σ H Q => ∃ F, Same F H ∧ Sl K F Γ σ ∧ ∀ H' F', Pur F H F' H' → Q b H'
def tPL (K : PySem.W.Frag) (Γ : List (Option D)) (ds : List D) : TA := fun σ H Q => ∃ F, Same F H ∧ Sl K F Γ σ ∧ ∀ vs H' F', Pur F H F' H' → IsL K F' ds vs → Q vs H'
def P3 (X : Cx) (Γ : List (Option D)) (e : Expr) (d : D) : Prop := PE X e (tP X.K Γ d)
def PT3 (X : Cx) (Γ : List (Option D)) (e : Expr) (b : Bool) : Prop := PT X e (tPT X.K Γ b)
def PL3 (X : Cx) (Γ : List (Option D)) (es : List Expr) (ds : List D) : Prop := PA X es (tPL X.K Γ ds)
def PF3 (X : Cx) (Γ : List (Option D)) (e : Expr) (ds : List D) : Prop := PE X e fun σ H Q => ∃ F, Same F H ∧ Sl X.K F Γ σ ∧ ∀ p xs H' F', Pur F H F' H' → H p = none → F' p = none → H' p = some (.lst xs) → IsL X.K F' ds xs → Q (.ref p) H'
theorem PE.of {X : Cx} {e : Expr} {t u : TE} (h : PE X e t) (i : ∀ σ H Q, u σ H Q → t σ H Q) : PE X e u := fun pins s σ H Q I hq => h pins s σ H Q I (i _ _ _ hq)
theorem PT.of {X : Cx} {e : Expr} {t u : TT} (h : PT X e t) (i : ∀ σ H Q, u σ H Q → t σ H Q) : PT X e u := fun pins s σ H Q I hq => h pins s σ H Q I (i _ _ _ hq)
theorem PA.of {X : Cx} {e : List Expr} {t u : TA} (h : PA X e t) (i : ∀ σ H Q, u σ H Q → t σ H Q) : PA X e u := fun p pins s σ H Q I hq => h p pins s σ H Q I (i _ _ _ hq)
section
variable {X : Cx} {Γ : List (Option D)} {a b c : Expr} {d d' : D} {pos : Pos}
theorem p_var {i : Nat} {x : Str} (hN : X.N[i]? = some x) (hv : Vis X.env.scope x) (hΓ : Γ[i]? = some (some d)) (hd : (x == ("__debug__" : Str)) = false := by decide) (hcd : (x == ("__classdict__" : Str)) = false := by decide) : P3 X Γ (.Name x pos) d :=
  PE.of (pe_var hN hv hd hcd) fun σ H Q ⟨F, fh, sl, k⟩ => by
    obtain ⟨v, e, h⟩ := sl i d hΓ
    exact ⟨v, e, k v H F (Pur.refl fh) h⟩
theorem p_int {i j} : P3 X Γ (.Constant (.int i) j pos) (.int i) := PE.of pe_int fun σ H Q ⟨F, fh, sl, k⟩ => k _ H F (Pur.refl fh) (by simp only [Is])
theorem p_bl {i j} : P3 X Γ (.Constant (.bool i) j pos) (.bl i) := PE.of pe_bl fun σ H Q ⟨F, fh, sl, k⟩ => k _ H F (Pur.refl fh) (by simp only [Is])
theorem p_str {i j} : P3 X Γ (.Constant (.str i) j pos) (.str i) := PE.of pe_str fun σ H Q ⟨F, fh, sl, k⟩ => k _ H F (Pur.refl fh) (by simp only [Is])
theorem p_glob {x : Str} {v : V} {u : Value} (hg : Gl X x) (hm : X.mg x = some u) (r : RelV v u) (hi : ∀ F, Is X.K F d v) (hd : (x == ("__debug__" : Str)) = false := by decide) : P3 X Γ (.Name x pos) d :=
  PE.of (pe_glob hg hm r hd) fun σ H Q ⟨F, fh, sl, k⟩ => k _ H F (Pur.refl fh) (hi F)
theorem p_bltn {x : Str} {v : V} {u : Value} (hg : Gl X x) (hm : X.mg x = none) (hv : bootBuiltins x = some u) (r : RelV v u) (hn : x ≠ "__name__" := by decide) (hd : (x == ("__debug__" : Str)) = false := by decide) : P3 X Γ (.Name x pos) (.raw v) :=
  PE.of (pe_bltn hg hm hv r hn hd) fun σ H Q ⟨F, fh, sl, k⟩ => k _ H F (Pur.refl fh) (by simp only [Is])
theorem tP2 {K : PySem.W.Frag} {σ : L2.St} {H : Hp} {R : V → V → Hp → Prop} (h : ∃ F, Same F H ∧ Sl K F Γ σ ∧ ∀ x y H2 F2, Pur F H F2 H2 → Is K F2 d x → Is K F2 d' y → R x y H2) :
    tP K Γ d σ H fun x H1 => tP K Γ d' σ H1 fun y H2 => R x y H2 := by
  obtain ⟨F, fh, sl, k⟩ := h
  exact ⟨F, fh, sl, fun x H1 F1 p1 i1 => ⟨F1, p1.fh, sl.mono p1.ff, fun y H2 F2 p2 i2 => k x y H2 F2 (p1.trans p2) (i1.mono p2.ff) i2⟩⟩
theorem p_opR {op : Operator} {r : R2} {d3 : D} (ho : OpR X (binaryOp op) r) (ha : P3 X Γ a d) (hb : P3 X Γ b d') (hr : ∀ x y H F Q, Same F H → Is X.K F d x → Is X.K F d' y → (∀ v H' F', Pur F H F' H' → Is X.K F' d3 v → Q v H') → r x y H Q) : P3 X Γ (.BinOp a op b pos) d3 :=
  PE.of (pe_op ho ha hb) fun σ H Q ⟨F, fh, sl, k⟩ => tP2 ⟨F, fh, sl, fun x y H2 F2 p i1 i2 => hr x y H2 F2 Q p.fh i1 i2 fun v H' F' p' i => k v H' F' (p.trans p') i⟩
theorem isI {K : PySem.W.Frag} {F : Hp} {i : Int} {v : V} (h : Is K F (.int i) v) : v = .int i := by simp only [Is] at h; exact h
theorem isS {K : PySem.W.Frag} {F : Hp} {i : Str} {v : V} (h : Is K F (.str i) v) : v = .str i := by simp only [Is] at h; exact h
theorem isB {K : PySem.W.Frag} {F : Hp} {i : Bool} {v : V} (h : Is K F (.bl i) v) : v = .bl i := by simp only [Is] at h; exact h
theorem isR {K : PySem.W.Frag} {F : Hp} {i v : V} (h : Is K F (.raw i) v) : v = i := by simp only [Is] at h; exact h
theorem p_opI {op : Operator} {C : Int → Int → Prop} {g : Int → Int → V} {i j : Int} {d3 : D} (ho : OpR X (binaryOp op) (rI C g)) (ha : P3 X Γ a (.int i)) (hb : P3 X Γ b (.int j)) (hc : C i j) (h3 : ∀ F, Is X.K F d3 (g i j)) : P3 X Γ (.BinOp a op b pos) d3 :=
  p_opR ho ha hb fun x y H F Q fh i1 i2 k => ⟨i, j, isI i1, isI i2, hc, k _ H F (Pur.refl fh) (h3 F)⟩
theorem p_opI0 {op : Operator} {g : Int → Int → V} {i j : Int} {d3 : D} (ho : OpR X (binaryOp op) (rI0 g)) (ha : P3 X Γ a (.int i)) (hb : P3 X Γ b (.int j)) (h3 : ∀ F, Is X.K F d3 (g i j)) : P3 X Γ (.BinOp a op b pos) d3 :=
  p_opR ho ha hb fun x y H F Q fh i1 i2 k => ⟨i, j, isI i1, isI i2, k _ H F (Pur.refl fh) (h3 F)⟩
theorem i_int {K : PySem.W.Frag} {i : Int} : ∀ F, Is K F (.int i) (.int i) := fun _ => by simp only [Is]
theorem i_bl {K : PySem.W.Frag} {i : Bool} : ∀ F, Is K F (.bl i) (.bl i) := fun _ => by simp only [Is]
theorem i_str {K : PySem.W.Frag} {i : Str} : ∀ F, Is K F (.str i) (.str i) := fun _ => by simp only [Is]
theorem i_raw {K : PySem.W.Frag} {i : V} : ∀ F, Is K F (.raw i) i := fun _ => by simp only [Is]
theorem i_non {K : PySem.W.Frag} : ∀ F, Is K F .non .non := fun _ => by simp only [Is]
variable {i j : Int}
theorem p_add (ha : P3 X Γ a (.int i)) (hb : P3 X Γ b (.int j)) : P3 X Γ (.BinOp a .Add b pos) (.int (i + j)) := p_opI0 op_add ha hb i_int
theorem p_sub (ha : P3 X Γ a (.int i)) (hb : P3 X Γ b (.int j)) : P3 X Γ (.BinOp a .Sub b pos) (.int (i - j)) := p_opI0 op_sub ha hb i_int
theorem p_mul (ha : P3 X Γ a (.int i)) (hb : P3 X Γ b (.int j)) (h : IntMulOk i j) : P3 X Γ (.BinOp a .Mult b pos) (.int (i * j)) := p_opI op_mulI ha hb h i_int
theorem p_mod (ha : P3 X Γ a (.int i)) (hb : P3 X Γ b (.int j)) (h : 0 < j) : P3 X Γ (.BinOp a .Mod b pos) (.int (i % j)) := p_opI op_mod ha hb h i_int
theorem p_fdivP (py : Pyl X) (ha : P3 X Γ a (.int i)) (hb : P3 X Γ b (.int j)) (h : 0 < j) : P3 X Γ (.BinOp a .FloorDiv b pos) (.int (i / j)) :=
  p_opI (op_fdivP py) ha hb (by omega) (fun F => by rw [Int.fdiv_eq_ediv_of_nonneg _ (Int.le_of_lt h)]; exact i_int F)
end
theorem atI_is {K : PySem.W.Frag} {F : Hp} {ds : List D} {xs : List V} {i : Int} {d : D} (h : IsL K F ds xs) (e : atI ds i = some d) : ∃ x, atI xs i = some x ∧ Is K F d x := by
  unfold atI at e ⊢
  rw [h.len]
  cases q : ixN ds.length i with
  | none => rw [q] at e; cases e
  | some j =>
    rw [q] at e
    exact h.get (i := j) e
section
variable {X : Cx} {Γ : List (Option D)} {a b c : Expr} {d d' : D} {pos : Pos} {i : Int} {ds : List D}
theorem p_ixR {r : R2} {d3 : D} (ho : IxR X r) (ha : P3 X Γ a d) (hb : P3 X Γ b d') (hr : ∀ x y H F Q, Same F H → Is X.K F d x → Is X.K F d' y → (∀ v H' F', Pur F H F' H' → Is X.K F' d3 v → Q v H') → r x y H Q) (hs : PlainIx b) : P3 X Γ (.Subscript a b pos) d3 :=
  PE.of (pe_ix ho ha hb hs) fun σ H Q ⟨F, fh, sl, k⟩ => tP2 ⟨F, fh, sl, fun x y H2 F2 p i1 i2 => hr x y H2 F2 Q p.fh i1 i2 fun v H' F' p' i => k v H' F' (p.trans p') i⟩
theorem p_ixT (ha : P3 X Γ a (.tup ds)) (hb : P3 X Γ b (.int i)) (he : atI ds i = some d) (hs : PlainIx b := by exact fun _ _ => rfl) : P3 X Γ (.Subscript a b pos) d :=
  p_ixR ix_tup ha hb (fun x y H F Q fh i1 i2 k => by
    simp only [Is] at i1 i2
    obtain ⟨p, xs, rfl, h1, h2⟩ := i1
    obtain ⟨v, e1, e2⟩ := atI_is h2 he
    exact ⟨p, xs, i, v, rfl, i2, same_tup fh h1, e1, k v H F (Pur.refl fh) e2⟩) hs
theorem p_ixL (ha : P3 X Γ a (.lst ds)) (hb : P3 X Γ b (.int i)) (he : atI ds i = some d) (hs : PlainIx b := by exact fun _ _ => rfl) : P3 X Γ (.Subscript a b pos) d :=
  p_ixR ix_list ha hb (fun x y H F Q fh i1 i2 k => by
    simp only [Is] at i1 i2
    obtain ⟨p, xs, rfl, h1, h2⟩ := i1
    obtain ⟨v, e1, e2⟩ := atI_is h2 he
    exact ⟨p, xs, i, v, rfl, i2, .inl (same_rd fh h1), e1, k v H F (Pur.refl fh) e2⟩) hs
theorem p_ixS {x : Str} {c : Nat} (ha : P3 X Γ a (.str x)) (hb : P3 X Γ b (.int i)) (hz : x.length ≤ sizeLine) (he : atI x.cps.toList i = some c) (hs : PlainIx b := by exact fun _ _ => rfl) : P3 X Γ (.Subscript a b pos) (.str ⟨#[c]⟩) :=
  p_ixR ix_str ha hb (fun x' y H F Q fh i1 i2 k => by
    simp only [Is] at i1 i2
    exact ⟨x, i, c, i1, i2, hz, he, k _ H F (Pur.refl fh) (i_str F)⟩) hs
variable {e : Expr} {es : List Expr}
theorem pl_nil : PL3 X Γ [] [] := PA.of pa_nil fun σ H Q ⟨F, fh, sl, k⟩ => k [] H F (Pur.refl fh) IsL.nil
theorem pl_cons (ha : P3 X Γ e d) (hr : PL3 X Γ es ds) (hs : starEach (e :: es) X.env = (false, eval e X.env) :: starEach es X.env := by rfl) : PL3 X Γ (e :: es) (d :: ds) :=
  PA.of (pa_cons ha hr hs) fun σ H Q ⟨F, fh, sl, k⟩ => ⟨F, fh, sl, fun x H1 F1 p1 i1 => ⟨F1, p1.fh, sl.mono p1.ff, fun xs H2 F2 p2 i2 => k (x :: xs) H2 F2 (p1.trans p2) (IsL.cons (i1.mono p2.ff) i2)⟩⟩
theorem p_tup {x1} (h : PL3 X Γ es ds) (hz : ds.length ≤ sizeLine := by (simp only [List.length_cons, List.length_nil]; decide)) : P3 X Γ (.Tuple es x1 pos) (.tup ds) :=
  PE.of (pe_tup h) fun σ H Q ⟨F, fh, sl, k⟩ => ⟨F, fh, sl, fun xs H1 F1 p1 i1 => ⟨by rw [i1.len]; exact hz, fun p hp => k _ _ _ (p1.trans (Pur.lay p1.fh hp)) (by
    simp only [Is]
    exact ⟨p, xs, rfl, .inl (.inl upd_same), i1.mono (Pur.lay p1.fh hp).ff⟩)⟩⟩
theorem pf_lst (h : PL3 X Γ es ds) (hz : ds.length ≤ sizeLine := by (simp only [List.length_cons, List.length_nil]; decide)) : PF3 X Γ (.List es pos) ds :=
  PE.of (pe_lst h) fun σ H Q ⟨F, fh, sl, k⟩ => ⟨F, fh, sl, fun xs H1 F1 p1 i1 => ⟨by rw [i1.len]; exact hz, fun p hp => k p xs _ F1 (p1.trans (Pur.layOwn p1.fh hp)) (p1.hh.free hp) (p1.fh.free hp) upd_same i1⟩⟩
theorem PF3.p (h : PF3 X Γ e ds) : P3 X Γ e (.lst ds) := PE.of h fun σ H Q ⟨F, fh, sl, k⟩ => ⟨F, fh, sl, fun p xs H' F' pu hp fp e i => by
  have w : Same F' (upd F' p (.lst xs)) := fun b u q => by rw [upd_ne (ne_of_none q fp)]; exact q
  have wf : Same (upd F' p (.lst xs)) H' := fun b u q => by
    by_cases hb : b = p
    · subst hb; rw [upd_same] at q; cases q; exact e
    · rw [upd_ne hb] at q; exact pu.fh _ _ q
  have w2 : Pur F H (upd F' p (.lst xs)) H' := by
    refine ⟨pu.ff.trans w, wf, pu.hh, fun b q => ?_⟩
    by_cases hb : b = p
    · subst hb; exact .inr hp
    · rw [upd_ne hb] at q; exact pu.new b q
  exact k _ _ _ w2 (by simp only [Is]; exact ⟨p, xs, rfl, .inl upd_same, i.mono w⟩)⟩
theorem p_lst (h : PL3 X Γ es ds) (hz : ds.length ≤ sizeLine := by (simp only [List.length_cons, List.length_nil]; decide)) : P3 X Γ (.List es pos) (.lst ds) := (pf_lst h hz).p
end
end L3
set_option Elab.async false
set_option linter.all false
set_option maxRecDepth 100000
set_option maxHeartbeats 4000000
namespace L3
open PySem PySem.Spec PySem.Calls PyProof.Rows L2
mutual
def beqD : D → D → Bool
  | .non, .non => true
  | .bl a, .bl b => a == b
  | .int a, .int b => a == b
  | .str a, .str b => a == b
  | .tup a, .tup b => beqL a b
  | .lst a, .lst b => beqL a b
  | _, _ => false
def beqL : List D → List D → Bool
  | [], [] => true
  | a :: as, b :: bs => beqD a b && beqL as bs
  | _, _ => false
end
mutual
/-- plain values: no dicts, no objects -/
def pln : D → Bool
  | .non => true
  | .bl _ => true
  | .int _ => true
  | .str _ => true
  | .tup a => plnL a
  | .lst a => plnL a
  | _ => false
def plnL : List D → Bool
  | [] => true
  | a :: as => pln a && plnL as
end
mutual
/-- of one kind wherever they are compared -/
def kin : D → D → Bool
  | .non, .non => true
  | .bl _, .bl _ => true
  | .int _, .int _ => true
  | .str _, .str _ => true
  | .tup a, .tup b => kins a b
  | .lst a, .lst b => kins a b
  | _, _ => false
def kins : List D → List D → Bool
  | a :: as, b :: bs => kin a b && kins as bs
  | _, _ => true
end
mutual
def dep : D → Nat
  | .tup a => depL a + 1
  | .lst a => depL a + 1
  | _ => 0
def depL : List D → Nat
  | [] => 0
  | a :: as => max (dep a) (depL as)
end
theorem kin_inv {d e : D} (h : kin d e = true) : (d = .non ∧ e = .non) ∨ (∃ a b, d = .bl a ∧ e = .bl b) ∨ (∃ a b, d = .int a ∧ e = .int b) ∨ (∃ a b, d = .str a ∧ e = .str b) ∨ (∃ a b, d = .tup a ∧ e = .tup b ∧ kins a b = true) ∨ (∃ a b, d = .lst a ∧ e = .lst b ∧ kins a b = true) := by
  rw [kin.eq_def] at h
  split at h
  · exact .inl ⟨rfl, rfl⟩
  · exact .inr (.inl ⟨_, _, rfl, rfl⟩)
  · exact .inr (.inr (.inl ⟨_, _, rfl, rfl⟩))
  · exact .inr (.inr (.inr (.inl ⟨_, _, rfl, rfl⟩)))
  · exact .inr (.inr (.inr (.inr (.inl ⟨_, _, rfl, rfl, h⟩))))
  · exact .inr (.inr (.inr (.inr (.inr ⟨_, _, rfl, rfl, h⟩))))
  · exact absurd h (by decide)
mutual
theorem beqD_refl : ∀ {d : D}, pln d = true → beqD d d = true
  | .non, _ => by simp [beqD]
  | .bl _, _ => by simp [beqD]
  | .int _, _ => by simp [beqD]
  | .str _, _ => by simp [beqD]
  | .tup a, h => by rw [beqD]; rw [pln] at h; exact beqL_refl h
  | .lst a, h => by rw [beqD]; rw [pln] at h; exact beqL_refl h
  | .raw _, h => by simp [pln] at h
  | .dk _ _, h => by simp [pln] at h
  | .dt _ _, h => by simp [pln] at h
  | .obj _ _ _, h => by simp [pln] at h
  | .exc _, h => by simp [pln] at h
  | .scr _, h => by simp [pln] at h
theorem beqL_refl : ∀ {d : List D}, plnL d = true → beqL d d = true
  | [], _ => by simp [beqL]
  | a :: as, h => by
    rw [plnL, Bool.and_eq_true] at h
    rw [beqL, beqD_refl h.1, beqL_refl h.2]; rfl
end
mutual
theorem beqD_eq : ∀ {d e : D}, beqD d e = true → d = e
  | .non, e, h => by cases e <;> simp [beqD] at h ⊢
  | .bl _, e, h => by cases e <;> simp [beqD] at h ⊢; exact h
  | .int _, e, h => by cases e <;> simp [beqD] at h ⊢; exact h
  | .str _, e, h => by cases e <;> simp [beqD] at h ⊢; exact h
  | .tup a, e, h => by cases e <;> simp only [beqD, Bool.false_eq_true] at h; rw [beqL_eq h]
  | .lst a, e, h => by cases e <;> simp only [beqD, Bool.false_eq_true] at h; rw [beqL_eq h]
  | .raw _, e, h => by cases e <;> simp [beqD] at h
  | .dk _ _, e, h => by cases e <;> simp [beqD] at h
  | .dt _ _, e, h => by cases e <;> simp [beqD] at h
  | .obj _ _ _, e, h => by cases e <;> simp [beqD] at h
  | .exc _, e, h => by cases e <;> simp [beqD] at h
  | .scr _, e, h => by cases e <;> simp [beqD] at h
theorem beqL_eq : ∀ {d e : List D}, beqL d e = true → d = e
  | [], e, h => by cases e <;> simp [beqL] at h ⊢
  | a :: as, e, h => by
    cases e with
    | nil => simp [beqL] at h
    | cons b bs =>
      rw [beqL, Bool.and_eq_true] at h
      rw [beqD_eq h.1, beqL_eq h.2]
end
theorem beqD_ne {d e : D} (h : d ≠ e) : beqD d e = false := by
  cases q : beqD d e with
  | false => rfl
  | true => exact absurd (beqD_eq q) h
theorem beqL_all : ∀ (ds es : List D), ds.length = es.length → ((List.range ds.length).all fun j => beqD (ds.getD j .non) (es.getD j .non)) = beqL ds es
  | [], [], _ => by simp [beqL]
  | [], _ :: _, h => by simp at h
  | _ :: _, [], h => by simp at h
  | a :: as, b :: bs, h => by
    have ih := beqL_all as bs (by simpa using h)
    rw [beqL, ← ih, List.length_cons, List.range_succ_eq_map, List.all_cons, List.all_map]
    rfl
theorem beqL_len : ∀ {ds es : List D}, ds.length ≠ es.length → beqL ds es = false
  | [], [], h => absurd rfl h
  | [], _ :: _, _ => by simp [beqL]
  | _ :: _, [], _ => by simp [beqL]
  | a :: as, b :: bs, h => by
    rw [beqL, beqL_len (ds := as) (es := bs) (fun z => h (by simp [z])), Bool.and_false]
theorem kins_get : ∀ {ds es : List D} {i : Nat} {d e : D}, kins ds es = true → ds[i]? = some d → es[i]? = some e → kin d e = true
  | [], _, _, _, _, _, h, _ => by simp at h
  | _ :: _, [], _, _, _, _, _, h => by simp at h
  | a :: as, b :: bs, 0, d, e, h, h1, h2 => by
    simp at h1 h2
    subst h1 h2
    rw [kins, Bool.and_eq_true] at h
    exact h.1
  | a :: as, b :: bs, i + 1, d, e, h, h1, h2 => by
    rw [kins, Bool.and_eq_true] at h
    exact kins_get (i := i) h.2 (by simpa using h1) (by simpa using h2)
theorem dep_get : ∀ {ds : List D} {i : Nat} {d : D}, ds[i]? = some d → dep d ≤ depL ds
  | [], _, _, h => by simp at h
  | a :: as, 0, d, h => by simp at h; subst h; rw [depL]; exact Nat.le_max_left _ _
  | a :: as, i + 1, d, h => by
    rw [depL]
    exact Nat.le_trans (dep_get (i := i) (by simpa using h)) (Nat.le_max_right _ _)
section
variable {X : Cx} {pins : List (Addr × Obj)} {σ : L2.St} {H : Hp} {s : Shared}
theorem Is.same (I : Inv X pins σ H s) : ∀ (n : Nat) {v : V} {d e : D}, dep d ≤ n → kin d e = true → Is X.K H d v → Is X.K H e v → d = e := by
  intro n
  induction n with
  | zero =>
    intro v d e hn hk h h'
    rcases kin_inv hk with ⟨rfl, rfl⟩ | ⟨_, _, rfl, rfl⟩ | ⟨_, _, rfl, rfl⟩ | ⟨_, _, rfl, rfl⟩ | ⟨_, _, rfl, rfl, hk⟩ | ⟨_, _, rfl, rfl, hk⟩ <;> simp only [Is] at h h' <;> first
      | rfl
      | (rw [h] at h'; injection h' with z; rw [z]; done)
      | (rw [dep] at hn; omega)
  | succ n ih =>
    intro v d e hn hk h h'
    have go : ∀ {ds es : List D} {xs : List V}, depL ds ≤ n → kins ds es = true → IsL X.K H ds xs → IsL X.K H es xs → ds = es := by
      intro ds es xs hd hks h1 h2
      have l1 := h1.len
      have l2 := h2.len
      refine List.ext_getElem? fun i => ?_
      cases q : xs[i]? with
      | none =>
        have z : xs.length ≤ i := List.getElem?_eq_none_iff.mp q
        rw [List.getElem?_eq_none_iff.mpr (by omega), List.getElem?_eq_none_iff.mpr (by omega)]
      | some v =>
        obtain ⟨d, e1, i1⟩ := h1.get' q
        obtain ⟨e, e2, i2⟩ := h2.get' q
        rw [e1, e2, ih (Nat.le_trans (dep_get e1) hd) (kins_get hks e1 e2) i1 i2]
    rcases kin_inv hk with ⟨rfl, rfl⟩ | ⟨_, _, rfl, rfl⟩ | ⟨_, _, rfl, rfl⟩ | ⟨_, _, rfl, rfl⟩ | ⟨_, _, rfl, rfl, hk⟩ | ⟨_, _, rfl, rfl, hk⟩ <;> simp only [Is] at h h' <;> first
      | rfl
      | (rw [h] at h'; injection h' with z; rw [z]; done)
      | (rw [dep] at hn
         obtain ⟨a, xs, rfl, s1, i1⟩ := h
         obtain ⟨a', ys, e', s2, i2⟩ := h'
         cases e'
         first
         | (cases I.tuple_inj s1 s2; rw [go (by omega) hk i1 i2]; done)
         | (cases I.list_inj (.inl s1) (.inl s2); rw [go (by omega) hk i1 i2]; done))
def placeEq (ds es : List D) (j : Nat) : Bool := beqD (ds.getD j .non) (es.getD j .non)
theorem items_eq {xs ys : List V} {ds es : List D} {us vs : List Value} {A : Around} (r1 : Vals xs us) (r2 : Vals ys vs) (h1 : IsL X.K H ds xs) (h2 : IsL X.K H es ys)
    (hk : kins ds es = true) {n : Nat} (hn : depL ds ≤ n)
    (ih : ∀ (x y : V) (d e : D) (u v : Value), dep d ≤ n → Is X.K H d x → Is X.K H e y → kin d e = true → RelV x u → RelV y v → SeqAt.EqAt A s u v (beqD d e)) :
    ∀ j (q1 : j < us.toArray.size) (q2 : j < vs.toArray.size), SeqAt.EqAt A s us.toArray[j] vs.toArray[j] (placeEq ds es j) := by
  intro j q1 q2
  have e1 := r1.length
  have e2 := r2.length
  have l1 := h1.len
  have l2 := h2.len
  have p1 : j < us.length := by simpa using q1
  have p2 : j < vs.length := by simpa using q2
  have x1 : xs[j]? = some (xs[j]'(by omega)) := List.getElem?_eq_getElem _
  have y1 : ys[j]? = some (ys[j]'(by omega)) := List.getElem?_eq_getElem _
  obtain ⟨d, d1, i1⟩ := h1.get' x1
  obtain ⟨e, c1, i2⟩ := h2.get' y1
  obtain ⟨u, hu, ru⟩ := r1.get x1
  obtain ⟨v, hv, rv⟩ := r2.get y1
  have z1 : us.toArray[j] = u := by
    have : us[j]? = some (us[j]'p1) := List.getElem?_eq_getElem _
    rw [hu] at this
    simpa using (Option.some.inj this).symm
  have z2 : vs.toArray[j] = v := by
    have : vs[j]? = some (vs[j]'p2) := List.getElem?_eq_getElem _
    rw [hv] at this
    simpa using (Option.some.inj this).symm
  rw [z1, z2]
  unfold placeEq
  rw [List.getD_eq_getElem?_getD, List.getD_eq_getElem?_getD, d1, c1]
  exact ih _ _ _ _ u v (Nat.le_trans (dep_get d1) hn) i1 i2 (kins_get hk d1 c1) ru rv
theorem all_is {xs ys : List V} {ds es : List D} {us vs : List Value} (r1 : Vals xs us) (r2 : Vals ys vs) (h1 : IsL X.K H ds xs) (h2 : IsL X.K H es ys) :
    ((List.range (min us.toArray.size vs.toArray.size)).all (placeEq ds es) && us.toArray.size == vs.toArray.size) = beqL ds es := by
  have e1 := r1.length
  have e2 := r2.length
  have l1 := h1.len
  have l2 := h2.len
  simp only [List.size_toArray]
  by_cases hl : us.length = vs.length
  · rw [← hl, Nat.min_self, beq_self_eq_true, Bool.and_true, ← e1, l1]
    exact beqL_all ds es (by omega)
  · rw [beqL_len (by omega), show (us.length == vs.length) = false by simpa using hl, Bool.and_false]
theorem rc_tup3 {a b : Addr} {xs ys : List V} {ds es : List D} {A : Around} (I : Inv X pins σ H s) (hx : SqT X.K H a xs) (hy : SqT X.K H b ys) (h1 : IsL X.K H ds xs) (h2 : IsL X.K H es ys) (hu : A.units < cLine)
    (hk : kins ds es = true) {n : Nat} (hn : depL ds ≤ n)
    (ih : ∀ (x y : V) (d e : D) (u v : Value), dep d ≤ n → Is X.K H d x → Is X.K H e y → kin d e = true → RelV x u → RelV y v → SeqAt.EqAt A.in1 s u v (beqD d e)) : SeqAt.RcAt A s (.ref a) (.ref b) (beqL ds es) := by
  obtain ⟨us, r1, t1, _⟩ := I.tuple hx
  obtain ⟨vs, r2, t2, _⟩ := I.tuple hy
  have z := SeqAt.RcAt.tuples (show s.heap.IsTuple a us.toArray from t1) (show s.heap.IsTuple b vs.toArray from t2) hu (items_eq r1 r2 h1 h2 hk hn ih)
  rw [all_is r1 r2 h1 h2] at z
  exact z
theorem rc_lst3 {a b : Addr} {xs ys : List V} {ds es : List D} {A : Around} (I : Inv X pins σ H s) (hx : SqL X.K H a xs) (hy : SqL X.K H b ys) (h1 : IsL X.K H ds xs) (h2 : IsL X.K H es ys) (hu : A.units < cLine)
    (hk : kins ds es = true) {n : Nat} (hn : depL ds ≤ n)
    (ih : ∀ (x y : V) (d e : D) (u v : Value), dep d ≤ n → Is X.K H d x → Is X.K H e y → kin d e = true → RelV x u → RelV y v → SeqAt.EqAt A.in1 s u v (beqD d e)) : SeqAt.RcAt A s (.ref a) (.ref b) (beqL ds es) := by
  obtain ⟨us, r1, t1, _⟩ := I.list hx
  obtain ⟨vs, r2, t2, _⟩ := I.list hy
  have e1 := r1.length
  have e2 := r2.length
  have l1 := h1.len
  have l2 := h2.len
  by_cases hl : us.length = vs.length
  · have z := SeqAt.RcAt.lists t1.isList t2.isList (by simpa using hl) hu (items_eq r1 r2 h1 h2 hk hn ih)
    have q : (List.range us.toArray.size).all (placeEq ds es) = beqL ds es := by
      simp only [List.size_toArray]
      rw [← e1, l1]
      exact beqL_all ds es (by omega)
    rw [q] at z
    exact z
  · rw [beqL_len (by omega)]
    exact SeqAt.RcAt.lists_lengths t1.isList t2.isList (by simpa using hl) hu
theorem ne_tup3 {a b : Addr} {xs ys : List V} {ds es : List D} {A : Around} (I : Inv X pins σ H s) (hx : SqT X.K H a xs) (hy : SqT X.K H b ys) (h1 : IsL X.K H ds xs) (h2 : IsL X.K H es ys) (hu : A.units < cLine)
    (hk : kins ds es = true) {n : Nat} (hn : depL ds ≤ n)
    (ih : ∀ (x y : V) (d e : D) (u v : Value), dep d ≤ n → Is X.K H d x → Is X.K H e y → kin d e = true → RelV x u → RelV y v → SeqAt.EqAt A.in1 s u v (beqD d e)) : SeqAt.RcNeAt A s (.ref a) (.ref b) (!beqL ds es) := by
  obtain ⟨us, r1, t1, _⟩ := I.tuple hx
  obtain ⟨vs, r2, t2, _⟩ := I.tuple hy
  have z := SeqAt.RcNeAt.tuples (show s.heap.IsTuple a us.toArray from t1) (show s.heap.IsTuple b vs.toArray from t2) hu (items_eq r1 r2 h1 h2 hk hn ih)
  rw [all_is r1 r2 h1 h2] at z
  exact z
theorem ne_lst3 {a b : Addr} {xs ys : List V} {ds es : List D} {A : Around} (I : Inv X pins σ H s) (hx : SqL X.K H a xs) (hy : SqL X.K H b ys) (h1 : IsL X.K H ds xs) (h2 : IsL X.K H es ys) (hu : A.units < cLine)
    (hk : kins ds es = true) {n : Nat} (hn : depL ds ≤ n)
    (ih : ∀ (x y : V) (d e : D) (u v : Value), dep d ≤ n → Is X.K H d x → Is X.K H e y → kin d e = true → RelV x u → RelV y v → SeqAt.EqAt A.in1 s u v (beqD d e)) : SeqAt.RcNeAt A s (.ref a) (.ref b) (!beqL ds es) := by
  obtain ⟨us, r1, t1, _⟩ := I.list hx
  obtain ⟨vs, r2, t2, _⟩ := I.list hy
  have e1 := r1.length
  have e2 := r2.length
  have l1 := h1.len
  have l2 := h2.len
  by_cases hl : us.length = vs.length
  · have z := SeqAt.RcNeAt.lists t1.isList t2.isList (by simpa using hl) hu (items_eq r1 r2 h1 h2 hk hn ih)
    have q : (List.range us.toArray.size).all (placeEq ds es) = beqL ds es := by
      simp only [List.size_toArray]
      rw [← e1, l1]
      exact beqL_all ds es (by omega)
    rw [q] at z
    exact z
  · rw [beqL_len (by omega)]
    exact SeqAt.RcNeAt.lists_lengths t1.isList t2.isList (by simpa using hl) hu
theorem pln_of_kin : ∀ (n : Nat) {d e : D}, dep d ≤ n → kin d e = true → d = e → pln d = true := by
  intro n
  induction n with
  | zero => intro d e hn hk he; subst he; cases d <;> simp [kin] at hk <;> first | (simp [pln]; done) | (rw [dep] at hn; omega)
  | succ n ih =>
    intro d e hn hk he
    subst he
    have go : ∀ {ds : List D}, depL ds ≤ n → kins ds ds = true → plnL ds = true := by
      intro ds
      induction ds with
      | nil => intro _ _; simp [plnL]
      | cons a as ih2 =>
        intro hd hks
        rw [depL] at hd
        rw [kins, Bool.and_eq_true] at hks
        rw [plnL, ih (by omega) hks.1 rfl, ih2 (by omega) hks.2]; rfl
    cases d <;> simp [kin] at hk <;> first
      | (simp [pln]; done)
      | (rw [dep] at hn; rw [pln]; exact go (by omega) hk)
theorem eq_is3 (I : Inv X pins σ H s) : ∀ (n : Nat) (A : Around), A.units + n < cLine → ∀ (x y : V) (d e : D) (u v : Value), dep d ≤ n → Is X.K H d x → Is X.K H e y → kin d e = true → RelV x u → RelV y v → SeqAt.EqAt A s u v (beqD d e) := by
  intro n
  induction n with
  | zero =>
    intro A hA x y d e u v hn hx hy hk rx ry
    rcases kin_inv hk with ⟨rfl, rfl⟩ | ⟨_, _, rfl, rfl⟩ | ⟨_, _, rfl, rfl⟩ | ⟨_, _, rfl, rfl⟩ | ⟨_, _, rfl, rfl, hk⟩ | ⟨_, _, rfl, rfl, hk⟩ <;> simp only [Is] at hx hy <;> first
      | (subst hx hy; cases rx; cases ry; rw [beqD]; exact SeqAt.EqAt.same _)
      | (subst hx hy; cases rx; cases ry; rw [beqD]; exact SeqAt.EqAt.bool_bool _ _)
      | (subst hx hy; obtain ⟨t, rfl⟩ := rx; obtain ⟨t', rfl⟩ := ry; rw [beqD]; exact SeqAt.EqAt.int_int _ _ _ _)
      | (subst hx hy; obtain ⟨t, rfl⟩ := rx; obtain ⟨t', rfl⟩ := ry; rw [beqD]; exact SeqAt.EqAt.str_str _ _ _ _)
      | (rw [dep] at hn; omega)
  | succ n ih =>
    intro A hA x y d e u v hn hx hy hk rx ry
    have hu : A.units < cLine := by omega
    have hA' : A.in1.units + n < cLine := by
      show A.units + 1 + n < cLine
      omega
    by_cases hxy : d = e ∧ x = y
    · obtain ⟨rfl, rfl⟩ := hxy
      have hp := pln_of_kin (n + 1) hn hk rfl
      rw [beqD_refl hp]
      cases d <;> simp [kin] at hk <;> simp only [Is] at hx <;> first
        | (subst hx; cases rx; cases ry; exact SeqAt.EqAt.same _)
        | (subst hx; obtain ⟨t, rfl⟩ := rx; obtain ⟨t', rfl⟩ := ry; have z := SeqAt.EqAt.int_int (A := A) (s := s) (by assumption) t (by assumption) t'; simpa using z)
        | (subst hx; rename_i i; obtain ⟨t, rfl⟩ := rx; obtain ⟨t', rfl⟩ := ry; have z := SeqAt.EqAt.int_int (A := A) (s := s) i t i t'; simpa using z)
        | (subst hx; rename_i i; obtain ⟨t, rfl⟩ := rx; obtain ⟨t', rfl⟩ := ry; have z := SeqAt.EqAt.str_str (A := A) (s := s) i t i t'; simpa using z)
        | (obtain ⟨a, xs, rfl, _, _⟩ := hx; cases rx; cases ry; exact SeqAt.EqAt.same _)
    · have key := fun (x y : V) (d e : D) (u v : Value) p q r s' t w => ih A.in1 hA' x y d e u v p q r s' t w
      have sm := fun (h : x = y) => Is.same I (n + 1) hn hk hx (h ▸ hy)
      rcases kin_inv hk with ⟨rfl, rfl⟩ | ⟨_, _, rfl, rfl⟩ | ⟨_, _, rfl, rfl⟩ | ⟨_, _, rfl, rfl⟩ | ⟨_, _, rfl, rfl, hk⟩ | ⟨_, _, rfl, rfl, hk⟩ <;> simp only [Is] at hx hy <;> first
        | (subst hx hy; cases rx; cases ry; rw [beqD]; exact SeqAt.EqAt.same _)
        | (subst hx hy; cases rx; cases ry; rw [beqD]; exact SeqAt.EqAt.bool_bool _ _)
        | (subst hx hy; obtain ⟨t, rfl⟩ := rx; obtain ⟨t', rfl⟩ := ry; rw [beqD]; exact SeqAt.EqAt.int_int _ _ _ _)
        | (subst hx hy; obtain ⟨t, rfl⟩ := rx; obtain ⟨t', rfl⟩ := ry; rw [beqD]; exact SeqAt.EqAt.str_str _ _ _ _)
        | (rw [dep] at hn
           obtain ⟨a, xs, rfl, s1, i1⟩ := hx
           obtain ⟨b, ys, rfl, s2, i2⟩ := hy
           cases rx; cases ry
           have hab : a ≠ b := fun z => hxy ⟨sm (by rw [z]), by rw [z]⟩
           rw [beqD]
           first
           | exact SeqAt.EqAt.of_refs hab (rc_tup3 I s1 s2 i1 i2 hu hk (by omega) key)
           | exact SeqAt.EqAt.of_refs hab (rc_lst3 I (.inl s1) (.inl s2) i1 i2 hu hk (by omega) key))
end
def rEq3 (K : PySem.W.Frag) (neg : Bool) : R2 := fun x y H Q => ∃ d e, Is K H d x ∧ Is K H e y ∧ kin d e = true ∧ dep d ≤ 60 ∧ Q (.bl (if neg then !beqD d e else beqD d e)) H
section
variable {X : Cx}
theorem op_eq3 (hu : X.A.units + 64 < cLine) : OpR X (compareOp .Eq) (rEq3 X.K false) := by
  intro pins s σ H x y v u Q I rx ry h
  obtain ⟨d, e, h1, h2, hk, hn, q⟩ := h
  have hu0 : X.A.units < cLine := by omega
  have key := fun (x y : V) (d e : D) (u v : Value) p q r s' t w => eq_is3 (s := s) I 60 X.A.in1 (by show X.A.units + 1 + 60 < cLine; omega) x y d e u v p q r s' t w
  have sc : scal x y = true → (decide (x = y)) = beqD d e → wpAny (model X.prog X.w) X.A (compareOp .Eq v u) (EP X pins σ Q) X.xe s := fun hs hb =>
    op_eq pins s σ H x y v u Q I rx ry ⟨hs, by rw [hb]; exact q⟩
  rcases kin_inv hk with ⟨rfl, rfl⟩ | ⟨_, _, rfl, rfl⟩ | ⟨_, _, rfl, rfl⟩ | ⟨_, _, rfl, rfl⟩ | ⟨_, _, rfl, rfl, hk⟩ | ⟨_, _, rfl, rfl, hk⟩ <;> simp only [Is] at h1 h2 <;> first
    | (subst h1 h2; exact sc rfl (by first | (simp [beqD]; done) | (rw [beqD, Bool.eq_iff_iff]; simp)))
    | (rw [dep] at hn
       obtain ⟨a, xs, rfl, s1, i1⟩ := h1
       obtain ⟨b, ys, rfl, s2, i2⟩ := h2
       cases rx; cases ry
       simp only [beqD, Bool.false_eq_true, if_false] at q
       first
       | exact rc_tup3 (A := X.A) I s1 s2 i1 i2 hu0 hk (by omega) key X.prog X.w X.xe _ ⟨.bl _, H, I, rfl, q⟩
       | exact rc_lst3 (A := X.A) I (.inl s1) (.inl s2) i1 i2 hu0 hk (by omega) key X.prog X.w X.xe _ ⟨.bl _, H, I, rfl, q⟩)
theorem op_ne3 (hu : X.A.units + 64 < cLine) : OpR X (compareOp .NotEq) (rEq3 X.K true) := by
  intro pins s σ H x y v u Q I rx ry h
  obtain ⟨d, e, h1, h2, hk, hn, q⟩ := h
  have hu0 : X.A.units < cLine := by omega
  have key := fun (x y : V) (d e : D) (u v : Value) p q r s' t w => eq_is3 (s := s) I 60 X.A.in1 (by show X.A.units + 1 + 60 < cLine; omega) x y d e u v p q r s' t w
  have sc : scal x y = true → (decide (x = y)) = beqD d e → wpAny (model X.prog X.w) X.A (compareOp .NotEq v u) (EP X pins σ Q) X.xe s := fun hs hb =>
    op_ne pins s σ H x y v u Q I rx ry ⟨hs, by rw [hb]; exact q⟩
  rcases kin_inv hk with ⟨rfl, rfl⟩ | ⟨_, _, rfl, rfl⟩ | ⟨_, _, rfl, rfl⟩ | ⟨_, _, rfl, rfl⟩ | ⟨_, _, rfl, rfl, hk⟩ | ⟨_, _, rfl, rfl, hk⟩ <;> simp only [Is] at h1 h2 <;> first
    | (subst h1 h2; exact sc rfl (by first | (simp [beqD]; done) | (rw [beqD, Bool.eq_iff_iff]; simp)))
    | (rw [dep] at hn
       obtain ⟨a, xs, rfl, s1, i1⟩ := h1
       obtain ⟨b, ys, rfl, s2, i2⟩ := h2
       cases rx; cases ry
       simp only [beqD, if_true] at q
       first
       | exact ne_tup3 (A := X.A) I s1 s2 i1 i2 hu0 hk (by omega) key X.prog X.w X.xe _ ⟨.bl _, H, I, rfl, q⟩
       | exact ne_lst3 (A := X.A) I (.inl s1) (.inl s2) i1 i2 hu0 hk (by omega) key X.prog X.w X.xe _ ⟨.bl _, H, I, rfl, q⟩)
end
end L3
set_option Elab.async false
set_option linter.all false
set_option maxRecDepth 100000
set_option maxHeartbeats 4000000
namespace L3
open PySem PySem.Spec PySem.Calls PyProof.Rows L2
def C3 (X : Cx) (Γ : List (Option D)) (a : Expr) (op : CmpOp) (b : Expr) (k : Bool) : Prop := ∃ (r : R2) (ta tb : TE), OpR X (compareOp op) r ∧ PE X a ta ∧ PE X b tb ∧
  ∀ (σ : L2.St) (H : Hp) (Q : VK), (∃ F, Same F H ∧ Sl X.K F Γ σ ∧ ∀ H' F', Pur F H F' H' → Q (.bl k) H') → tOp r ta tb σ H Q
section
variable {X : Cx} {Γ : List (Option D)} {a b c : Expr} {d d' : D} {pos : Pos} {op : CmpOp} {k : Bool}
theorem p_cmp (h : C3 X Γ a op b k) (hm : behindInMarks op b = false := by first | exact nomark _ | with_unfolding_all rfl) : P3 X Γ (.Compare a [op] [b] pos) (.bl k) := by
  obtain ⟨r, ta, tb, ho, ha, hb, q⟩ := h
  exact PE.of (pe_cmpR ho ha hb hm) fun σ H Q ⟨F, fh, sl, kk⟩ => q σ H Q ⟨F, fh, sl, fun H' F' p => kk _ H' F' p (i_bl _)⟩
theorem t_cmp (h : C3 X Γ a op b k) (hm : behindInMarks op b = false := by first | exact nomark _ | with_unfolding_all rfl) : PT3 X Γ (.Compare a [op] [b] pos) k := by
  obtain ⟨r, ta, tb, ho, ha, hb, q⟩ := h
  exact PT.of (pt_cmpR ho ha hb hm) fun σ H Q ⟨F, fh, sl, kk⟩ => q σ H _ ⟨F, fh, sl, fun H' F' p => ⟨k, rfl, kk H' F' p⟩⟩
theorem c_R {r : R2} (ho : OpR X (compareOp op) r) (ha : P3 X Γ a d) (hb : P3 X Γ b d') (hr : ∀ x y H F Q, Same F H → Is X.K F d x → Is X.K F d' y → Q (.bl k) H → r x y H Q) : C3 X Γ a op b k :=
  ⟨r, _, _, ho, ha, hb, fun σ H Q ⟨F, fh, sl, q⟩ => tP2 ⟨F, fh, sl, fun x y H2 F2 p i1 i2 => hr x y H2 F2 Q p.fh i1 i2 (q H2 F2 p)⟩⟩
variable {i j : Int}
theorem c_I {g : Int → Int → Bool} (ho : OpR X (compareOp op) (rI0 fun i j => .bl (g i j))) (ha : P3 X Γ a (.int i)) (hb : P3 X Γ b (.int j)) : C3 X Γ a op b (g i j) :=
  c_R ho ha hb fun x y H F Q fh i1 i2 q => ⟨i, j, isI i1, isI i2, q⟩
theorem c_lt (ha : P3 X Γ a (.int i)) (hb : P3 X Γ b (.int j)) : C3 X Γ a .Lt b (decide (i < j)) := c_I op_lt ha hb
theorem c_gt (ha : P3 X Γ a (.int i)) (hb : P3 X Γ b (.int j)) : C3 X Γ a .Gt b (decide (j < i)) := c_I op_gt ha hb
theorem c_ge (ha : P3 X Γ a (.int i)) (hb : P3 X Γ b (.int j)) : C3 X Γ a .GtE b (decide (j ≤ i)) := c_I op_ge ha hb
theorem c_eqI (ha : P3 X Γ a (.int i)) (hb : P3 X Γ b (.int j)) : C3 X Γ a .Eq b (decide (i = j)) :=
  c_R op_eq ha hb fun x y H F Q fh i1 i2 q => by
    cases isI i1; cases isI i2
    exact ⟨rfl, by simpa only [V.int.injEq] using q⟩
theorem c_neI (ha : P3 X Γ a (.int i)) (hb : P3 X Γ b (.int j)) : C3 X Γ a .NotEq b (!decide (i = j)) :=
  c_R op_ne ha hb fun x y H F Q fh i1 i2 q => by
    cases isI i1; cases isI i2
    exact ⟨rfl, by simpa only [V.int.injEq] using q⟩
theorem c_eqS {i j : Str} (ha : P3 X Γ a (.str i)) (hb : P3 X Γ b (.str j)) : C3 X Γ a .Eq b (decide (i = j)) :=
  c_R op_eq ha hb fun x y H F Q fh i1 i2 q => by
    cases isS i1; cases isS i2
    exact ⟨rfl, by simpa only [V.str.injEq] using q⟩
theorem c_eq (hu : X.A.units + 64 < cLine) (ha : P3 X Γ a d) (hb : P3 X Γ b d') (hk : kin d d' = true) (hd : dep d ≤ 60) : C3 X Γ a .Eq b (beqD d d') :=
  c_R (op_eq3 hu) ha hb fun x y H F Q fh i1 i2 q => ⟨d, d', i1.mono fh, i2.mono fh, hk, hd, q⟩
theorem c_ne (hu : X.A.units + 64 < cLine) (ha : P3 X Γ a d) (hb : P3 X Γ b d') (hk : kin d d' = true) (hd : dep d ≤ 60) : C3 X Γ a .NotEq b (!beqD d d') :=
  c_R (op_ne3 hu) ha hb fun x y H F Q fh i1 i2 q => ⟨d, d', i1.mono fh, i2.mono fh, hk, hd, q⟩
theorem t_val {e : Expr} (h : P3 X Γ e (.bl k)) (he : ∀ whole, isTrue e X.env whole = (do let v ← whole; standAt e.pos; holding [v] (truthy v)) := by intro _; rfl) : PT3 X Γ e k :=
  PT.of (pt_val h he) fun σ H Q ⟨F, fh, sl, q⟩ => ⟨F, fh, sl, fun v H' F' p i => ⟨k, isB i, q H' F' p⟩⟩
theorem t_not (h : PT3 X Γ a k) : PT3 X Γ (.UnaryOp .Not a pos) (!k) := PT.of (pt_not h) fun σ H Q ⟨F, fh, sl, q⟩ => ⟨F, fh, sl, q⟩
def PW3 (X : Cx) (Γ : List (Option D)) (e : Expr) (k : Bool) : Prop := PW X e (tPT X.K Γ k)
theorem PW.of {X : Cx} {e : Expr} {t u : TT} (h : PW X e t) (i : ∀ σ H Q, u σ H Q → t σ H Q) : PW X e u := fun w pins s σ H Q I hq => h w pins s σ H Q I (i _ _ _ hq)
theorem PW3.t {e : Expr} (h : PW3 X Γ e k) : PT3 X Γ e k := PW.pt h
theorem tw_and1 (h : PT3 X Γ a k) : PW3 X Γ (.BoolOp .And [a] pos) k := pw_and1 h
theorem tw_or1 (h : PT3 X Γ a k) : PW3 X Γ (.BoolOp .Or [a] pos) k := pw_or1 h
theorem pw_no {e : Expr} : PW X e fun _ _ _ => False := fun _ _ _ _ _ _ _ h => h.elim
theorem pe_no {e : Expr} : PE X e fun _ _ _ => False := fun _ _ _ _ _ _ h => h.elim
variable {k' : Bool} {rest : List Expr}
theorem tw_and (ha : PT3 X Γ a k) (hb : k = true → PW3 X Γ (.BoolOp .And (b :: rest) pos) k') : PW3 X Γ (.BoolOp .And (a :: b :: rest) pos) (k && k') := by
  cases k with
  | true => exact PW.of (pw_and ha (hb rfl)) fun σ H Q ⟨F, fh, sl, q⟩ => ⟨F, fh, sl, fun H' F' p => by dsimp only; rw [if_pos rfl]; exact ⟨F', p.fh, sl.mono p.ff, fun H2 F2 p2 => q H2 F2 (p.trans p2)⟩⟩
  | false => exact PW.of (pw_and ha pw_no) fun σ H Q ⟨F, fh, sl, q⟩ => ⟨F, fh, sl, fun H' F' p => by dsimp only; rw [if_neg Bool.false_ne_true]; exact q H' F' p⟩
theorem tw_or (ha : PT3 X Γ a k) (hb : k = false → PW3 X Γ (.BoolOp .Or (b :: rest) pos) k') : PW3 X Γ (.BoolOp .Or (a :: b :: rest) pos) (k || k') := by
  cases k with
  | false => exact PW.of (pw_or ha (hb rfl)) fun σ H Q ⟨F, fh, sl, q⟩ => ⟨F, fh, sl, fun H' F' p => by dsimp only; rw [if_neg Bool.false_ne_true]; exact ⟨F', p.fh, sl.mono p.ff, fun H2 F2 p2 => q H2 F2 (p.trans p2)⟩⟩
  | true => exact PW.of (pw_or ha pw_no) fun σ H Q ⟨F, fh, sl, q⟩ => ⟨F, fh, sl, fun H' F' p => by dsimp only; rw [if_pos rfl]; exact q H' F' p⟩
theorem p_one {op : BoolOp} (h : P3 X Γ a d) : P3 X Γ (.BoolOp op [a] pos) d := pe_one h
theorem p_and (ha : P3 X Γ a (.bl k)) (hb : k = true → P3 X Γ (.BoolOp .And (b :: rest) pos) (.bl k')) : P3 X Γ (.BoolOp .And (a :: b :: rest) pos) (.bl (k && k')) := by
  cases k with
  | true => exact PE.of (pe_and ha (hb rfl)) fun σ H Q ⟨F, fh, sl, q⟩ => ⟨F, fh, sl, fun v H' F' p i => ⟨true, isB i, by rw [if_pos rfl]; exact ⟨F', p.fh, sl.mono p.ff, fun v2 H2 F2 p2 i2 => q v2 H2 F2 (p.trans p2) i2⟩⟩⟩
  | false => exact PE.of (pe_and ha pe_no) fun σ H Q ⟨F, fh, sl, q⟩ => ⟨F, fh, sl, fun v H' F' p i => ⟨false, isB i, by dsimp only; rw [if_neg Bool.false_ne_true]; exact q _ H' F' p (i_bl F')⟩⟩
theorem p_or (ha : P3 X Γ a (.bl k)) (hb : k = false → P3 X Γ (.BoolOp .Or (b :: rest) pos) (.bl k')) : P3 X Γ (.BoolOp .Or (a :: b :: rest) pos) (.bl (k || k')) := by
  cases k with
  | false => exact PE.of (pe_or ha (hb rfl)) fun σ H Q ⟨F, fh, sl, q⟩ => ⟨F, fh, sl, fun v H' F' p i => ⟨false, isB i, by rw [if_neg Bool.false_ne_true]; exact ⟨F', p.fh, sl.mono p.ff, fun v2 H2 F2 p2 i2 => q v2 H2 F2 (p.trans p2) i2⟩⟩⟩
  | true => exact PE.of (pe_or ha pe_no) fun σ H Q ⟨F, fh, sl, q⟩ => ⟨F, fh, sl, fun v H' F' p i => ⟨true, isB i, by dsimp only; rw [if_pos rfl]; exact q _ H' F' p (i_bl F')⟩⟩
theorem p_not (ha : P3 X Γ a (.bl k)) : P3 X Γ (.UnaryOp .Not a pos) (.bl (!k)) := PE.of (pe_not ha) fun σ H Q ⟨F, fh, sl, q⟩ => ⟨F, fh, sl, fun v H' F' p i => ⟨k, isB i, q _ H' F' p (i_bl F')⟩⟩
theorem p_ite (hc : PT3 X Γ c k) (ha : k = true → P3 X Γ a d) (hb : k = false → P3 X Γ b d) : P3 X Γ (.IfExp c a b pos) d := by
  cases k with
  | true => exact PE.of (pe_ifExp hc (ha rfl) pe_no) fun σ H Q ⟨F, fh, sl, q⟩ => ⟨F, fh, sl, fun H' F' p => by dsimp only; rw [if_pos rfl]; exact ⟨F', p.fh, sl.mono p.ff, fun v2 H2 F2 p2 i2 => q v2 H2 F2 (p.trans p2) i2⟩⟩
  | false => exact PE.of (pe_ifExp hc pe_no (hb rfl)) fun σ H Q ⟨F, fh, sl, q⟩ => ⟨F, fh, sl, fun H' F' p => by dsimp only; rw [if_neg Bool.false_ne_true]; exact ⟨F', p.fh, sl.mono p.ff, fun v2 H2 F2 p2 i2 => q v2 H2 F2 (p.trans p2) i2⟩⟩
end
def spP (K : PySem.W.Frag) (n : Nat) (C : List D → D → Prop) : Sp := fun vs H Q _ => ∃ ds d F, C ds d ∧ ds.length = n ∧ Same F H ∧ IsL K F ds vs ∧ ∀ v H' F', Pur F H F' H' → Is K F' d v → Q v H'
theorem spP.len {K : PySem.W.Frag} {n : Nat} {C : List D → D → Prop} {vs : List V} {H : Hp} {Q : VK} {E : XK} (h : spP K n C vs H Q E) : vs.length = n := by
  obtain ⟨ds, d, F, _, l, _, i, _⟩ := h
  rw [i.len, l]
section
variable {X : Cx} {Γ : List (Option D)} {d : D} {ds : List D} {n k : Nat} {C : List D → D → Prop} {x : Str} {ps : List Str} {e : Expr} {es : List Expr} {p pos : Pos}
theorem p_call (o : OkF X.prog X.w X.K X.mg X.base CX0 k x ps (spP X.K n C)) (hr : Room k X.A) (hg : Gl X x) (ha : PL3 X Γ (e :: es) ds) (hC : C ds d) (hn : ds.length = n := by rfl) (hdb : (x == ("__debug__" : Str)) = false := by decide)
    (he : starEach (e :: es) X.env = (false, eval e X.env) :: starEach es X.env := by rfl) (hpl : (backTo pos (starEach es X.env)).any (·.1) = false := by rfl) : P3 X Γ (.Call (.Name x p) (e :: es) [] pos) d :=
  PE.of (pe_fn o hr hg ha hdb he hpl) fun σ H Q ⟨F, fh, sl, q⟩ => ⟨F, fh, sl, fun vs H' F' pu i => by
    dsimp only
    rw [List.append_nil]
    exact ⟨ds, d, F', hC, hn, pu.fh, i, fun v H2 F2 p2 i2 => q v H2 F2 (pu.trans p2) i2⟩⟩
theorem p_callB {id : String} {r : List V → Hp → VK → Prop} (hc : CallR X (.builtin id) r) (hg : Gl X x) (hm : X.mg x = none) (hv : bootBuiltins x = some (.builtin id)) (ha : PL3 X Γ (e :: es) ds)
    (hr : ∀ vs H F Q, Same F H → IsL X.K F ds vs → (∀ v H' F', Pur F H F' H' → Is X.K F' d v → Q v H') → r vs H Q) (hn : x ≠ "__name__" := by decide) (hdb : (x == ("__debug__" : Str)) = false := by decide)
    (he : starEach (e :: es) X.env = (false, eval e X.env) :: starEach es X.env := by rfl) (hpl : (backTo pos (starEach es X.env)).any (·.1) = false := by rfl) : P3 X Γ (.Call (.Name x p) (e :: es) [] pos) d :=
  PE.of (pe_callB hc hg hm hv ha hn hdb he hpl) fun σ H Q ⟨F, fh, sl, q⟩ => ⟨F, fh, sl, fun vs H' F' pu i => hr vs H' F' Q pu.fh i fun v H2 F2 p2 i2 => q v H2 F2 (pu.trans p2) i2⟩
end
end L3
set_option Elab.async false
set_option linter.all false
set_option maxRecDepth 100000
set_option maxHeartbeats 4000000
namespace L3
open PySem PySem.Spec PySem.Calls PyProof.Rows L2
theorem isL1 {K : PySem.W.Frag} {F : Hp} {d : D} {vs : List V} (h : IsL K F [d] vs) : ∃ x, vs = [x] ∧ Is K F d x := by
  simp only [IsL] at h
  obtain ⟨x, r, rfl, i, rfl⟩ := h
  exact ⟨x, rfl, i⟩
theorem isL2 {K : PySem.W.Frag} {F : Hp} {d e : D} {vs : List V} (h : IsL K F [d, e] vs) : ∃ x y, vs = [x, y] ∧ Is K F d x ∧ Is K F e y := by
  simp only [IsL] at h
  obtain ⟨x, r, rfl, i, y, r2, rfl, i2, rfl⟩ := h
  exact ⟨x, y, rfl, i, i2⟩
theorem kin_symm : ∀ (n : Nat) {d e : D}, dep d ≤ n → kin d e = true → kin e d = true := by
  intro n
  induction n with
  | zero => intro d e hn hk; rcases kin_inv hk with ⟨rfl, rfl⟩ | ⟨_, _, rfl, rfl⟩ | ⟨_, _, rfl, rfl⟩ | ⟨_, _, rfl, rfl⟩ | ⟨_, _, rfl, rfl, hk⟩ | ⟨_, _, rfl, rfl, hk⟩ <;> rw [kin] <;> (rw [dep] at hn; omega)
  | succ n ih =>
    intro d e hn hk
    have go : ∀ {ds es : List D}, depL ds ≤ n → kins ds es = true → kins es ds = true := by
      intro ds
      induction ds with
      | nil => intro es _ _; cases es <;> simp [kins]
      | cons a as ih2 =>
        intro es hd hks
        cases es with
        | nil => simp [kins]
        | cons b bs =>
          rw [depL] at hd
          rw [kins, Bool.and_eq_true] at hks
          rw [kins, ih (by omega) hks.1, ih2 (by omega) hks.2]; rfl
    rcases kin_inv hk with ⟨rfl, rfl⟩ | ⟨_, _, rfl, rfl⟩ | ⟨_, _, rfl, rfl⟩ | ⟨_, _, rfl, rfl⟩ | ⟨_, _, rfl, rfl, hk⟩ | ⟨_, _, rfl, rfl, hk⟩ <;> rw [kin] <;> (rw [dep] at hn; exact go (by omega) hk)
def rCat3 (K : PySem.W.Frag) : R2 := fun x y H Q => ∃ l b xs zs, x = .ref l ∧ y = .ref b ∧ SqL K H l xs ∧ SqL K H b zs ∧ xs.length + zs.length ≤ sizeLine ∧ ∀ p, H p = none → Q (.ref p) (upd H p (.lst (xs ++ zs)))
section
variable {X : Cx}
theorem op_cat3 : OpR X (binaryOp .Add) (rCat3 X.K) := by
  intro pins s σ H x y v u Q I rx ry h
  obtain ⟨l, b, xs, zs, rfl, rfl, hH, hB, hz, q⟩ := h
  cases rx
  cases ry
  obtain ⟨its, r, ⟨o, n, e, c, dd, d⟩, z⟩ := I.list hH
  obtain ⟨its2, r2, ⟨o2, n2, e2, c2, dd2, d2⟩, z2⟩ := I.list hB
  obtain ⟨oc, od, odt, osl⟩ := o
  obtain ⟨oc2, od2, odt2, osl2⟩ := o2
  dsimp only at c dd d c2 dd2 d2
  subst c dd d c2 dd2 d2
  have hl := r.length
  have hl2 := r2.length
  have ea : its.toArray ++ its2.toArray = (its ++ its2).toArray := by simp
  refine concat_meets ⟨_, e, rfl⟩ ⟨_, e2, rfl⟩ noFill_list_add seq_list_add PySem.F.slot_list_add PySem.F.entry_list_add (PySem.F.args_list_add_2 _ _) (list_addW l b its.toArray its2.toArray n n2 none none osl osl2 (by rw [List.size_toArray, List.size_toArray]; omega)) ⟨e, e2, ?_⟩
  rw [ea]
  exact ⟨.ref _, _, I.lnew (t' := s.toks) (r.append r2) (by rw [List.length_append]; omega), rfl, q _ I.fresh⟩
def dTy : D → Option Value
  | .non => some (.type "NoneType")
  | .bl _ => some (.type "bool")
  | .int _ => some (.type "int")
  | .str _ => some (.type "str")
  | .tup _ => some (.type "tuple")
  | .lst _ => some (.type "list")
  | _ => none
theorem call_isin3 : CallR X (.builtin "isinstance") (fun xs H Q => ∃ x c d t b, xs = [x, c] ∧ Is X.K H d x ∧ dTy d = some t ∧ PySem.W.kitOne X.K t (cV c) = some b ∧ cV c ≠ .none ∧ Q (.bl b) H) := by
  intro pins s σ H xs us Q I r h
  obtain ⟨x, c, d, t, b, rfl, hi, ht, hk, hc, q⟩ := h
  obtain ⟨u, v, rfl, r1, r2⟩ := vals2 r
  rw [rel_cV r2 hc]
  have fin : ∀ tk, EP X pins σ Q (.bool b) { s with toks := tk } := fun tk => ⟨.bl b, H, I.tok _, rfl, q⟩
  cases d with
  | non => simp only [Is] at hi; subst hi; cases ht; exact isinst_ok I r1 .non hk fin
  | bl y => simp only [Is] at hi; subst hi; cases ht; exact isinst_ok I r1 (.bl y) hk fin
  | int y => simp only [Is] at hi; subst hi; cases ht; exact isinst_ok I r1 (.int y) hk fin
  | str y => simp only [Is] at hi; subst hi; cases ht; exact isinst_ok I r1 (.str y) hk fin
  | raw y => cases ht
  | obj C fs ds => cases ht
  | exc C => cases ht
  | scr ns => cases ht
  | tup ds =>
    simp only [Is] at hi
    obtain ⟨a, xs, rfl, h1, _⟩ := hi
    cases ht
    cases r1
    obtain ⟨its, _, ⟨o, e, c', _⟩, _⟩ := I.tuple h1
    exact PySem.W.kia_one PySem.W.kitx_tuple I.kIn ⟨o, e, c'⟩ hk (fun z => nomatch z) fin
  | lst ds =>
    simp only [Is] at hi
    obtain ⟨a, xs, rfl, h1, _⟩ := hi
    cases ht
    cases r1
    obtain ⟨its, _, p, _⟩ := I.list (.inl h1)
    obtain ⟨o, e, c', _⟩ := p.isList
    exact PySem.W.kia_one PySem.W.kitx_list I.kIn ⟨o, e, c'⟩ hk (fun z => nomatch z) fin
  | dk ks ds =>
    simp only [Is] at hi
    cases ht
  | dt ks ds =>
    simp only [Is] at hi
    cases ht
def inD (x : D) (ds : List D) : Bool := ds.any fun y => beqD y x
def rIn3 (K : PySem.W.Frag) (neg : Bool) : R2 := fun x y H Q => ∃ p xs d ds, y = .ref p ∧ (SqL K H p xs ∨ SqT K H p xs) ∧ IsL K H ds xs ∧ Is K H d x ∧ (∀ e ∈ ds, kin e d = true ∧ dep e ≤ 60) ∧ Q (.bl (if neg then !inD d ds else inD d ds)) H
open Classical in
/-- an item's answer, read off its value -/
noncomputable def ansOf (K : PySem.W.Frag) (H : Hp) (d : D) (ds : List D) (u : Value) : Bool := decide (∃ (e : D) (x : V), e ∈ ds ∧ RelV x u ∧ Is K H e x ∧ beqD e d = true)
open Classical in
theorem ans_iff {K : PySem.W.Frag} {H : Hp} {d : D} {ds : List D} {u : Value} : ansOf K H d ds u = true ↔ ∃ (e : D) (x : V), e ∈ ds ∧ RelV x u ∧ Is K H e x ∧ beqD e d = true := by
  unfold ansOf
  exact decide_eq_true_iff
theorem ans_any {K : PySem.W.Frag} {H : Hp} {d : D} {es : List D} : ∀ {ds : List D} {xs : List V} {us : List Value}, (∀ e ∈ ds, e ∈ es) → IsL K H ds xs → Vals xs us → (∀ e e' x, e ∈ es → e' ∈ es → Is K H e x → Is K H e' x → beqD e d = beqD e' d) →
    us.any (ansOf K H d es) = ds.any fun y => beqD y d
  | [], _, _, _, h, r, _ => by simp only [IsL] at h; subst h; cases r; rfl
  | e :: ds, _, _, hm, h, r, hs => by
    simp only [IsL] at h
    obtain ⟨x, xs, rfl, i, h⟩ := h
    cases r with
    | cons r1 r =>
      rename_i u us
      rw [List.any_cons, List.any_cons, ans_any (fun e' q => hm e' (List.mem_cons_of_mem _ q)) h r hs]
      congr 1
      rw [Bool.eq_iff_iff, ans_iff]
      constructor
      · rintro ⟨e', x', m, r2, i2, b⟩
        cases r2.inj r1
        rw [← b]
        exact hs _ _ _ (hm e (by simp)) m i i2
      · intro b
        exact ⟨e, x, hm e (by simp), r1, i, b⟩
theorem in_core {pins : List (Addr × Obj)} {s : Shared} {σ : L2.St} {H : Hp} {x : V} {v : Value} {xs : List V} {d : D} {ds : List D} {its : List Value} (hu : X.A.units + 64 < cLine) (I : Inv X pins σ H s) (rx : RelV x v) (hi : IsL X.K H ds xs) (hd : Is X.K H d x)
    (hk : ∀ e ∈ ds, kin e d = true ∧ dep e ≤ 60) (r : Vals xs its) : (∀ w ∈ its, SeqAt.EqAt X.A.in1 s w v (ansOf X.K H d ds w)) ∧ its.toArray.any (ansOf X.K H d ds) = inD d ds := by
  have key := fun (x y : V) (d e : D) (u v : Value) p q r s' t w => eq_is3 (s := s) I 60 X.A.in1 (by show X.A.units + 1 + 60 < cLine; omega) x y d e u v p q r s' t w
  have one : ∀ e e' x', e ∈ ds → e' ∈ ds → Is X.K H e x' → Is X.K H e' x' → beqD e d = beqD e' d := fun e e' x' m m' i i' => by
    obtain ⟨k1, n1⟩ := hk e m
    obtain ⟨k2, n2⟩ := hk e' m'
    by_cases b : beqD e d = true
    · have ee := beqD_eq b
      subst ee
      have k3 : kin e e' = true := kin_symm 60 n2 k2
      rw [Is.same I 60 n1 k3 i i']
    · by_cases b' : beqD e' d = true
      · have ee := beqD_eq b'
        subst ee
        rw [Is.same I 60 n1 k1 i i']
      · rw [Bool.eq_false_iff.mpr b, Bool.eq_false_iff.mpr b']
  refine ⟨fun w hw => ?_, ?_⟩
  · obtain ⟨i, hl, rfl⟩ := List.getElem_of_mem hw
    have hx : i < xs.length := by rw [r.length]; exact hl
    have x1 : xs[i]? = some xs[i] := List.getElem?_eq_getElem hx
    obtain ⟨w', e1, r1⟩ := r.get x1
    rw [List.getElem?_eq_getElem hl] at e1
    cases e1
    obtain ⟨e, e2, i2⟩ := hi.get' x1
    have m := List.mem_of_getElem? e2
    have z := key _ _ _ _ _ _ (hk e m).2 i2 hd (hk e m).1 r1 rx
    have : ansOf X.K H d ds its[i] = beqD e d := by
      rw [Bool.eq_iff_iff, ans_iff]
      constructor
      · rintro ⟨e', x', m', r2, i3, b⟩
        cases r2.inj r1
        rw [← b]
        exact one _ _ _ m m' i2 i3
      · intro b
        exact ⟨e, _, m, r1, i2, b⟩
    rw [this]
    exact z
  · rw [show its.toArray.any (ansOf X.K H d ds) = its.any (ansOf X.K H d ds) by simp, ans_any (fun _ z => z) hi r one]
    rfl
theorem op_in3 (hu : X.A.units + 64 < cLine) : OpR X (compareOp .In) (rIn3 X.K false) := by
  intro pins s σ H x y v u Q I rx ry h
  obtain ⟨p, xs, d, ds, rfl, hq, hi, hd, hk, q⟩ := h
  cases ry
  rcases hq with hq | hq
  · obtain ⟨its, r, pl, hz⟩ := I.list hq
    obtain ⟨c1, c2⟩ := in_core hu I rx hi hd hk r
    refine SeqAt.in_listAt (ansOf X.K H d ds) pl.isList (fun w hw => c1 w (by simpa using hw)) ⟨.bl _, H, I, rfl, ?_⟩
    rw [c2]
    exact q
  · obtain ⟨its, r, pl, hz⟩ := I.tuple hq
    obtain ⟨c1, c2⟩ := in_core hu I rx hi hd hk r
    refine SeqAt.in_tupleAt (ansOf X.K H d ds) pl (fun w hw => c1 w (by simpa using hw)) ⟨.bl _, H, I, rfl, ?_⟩
    rw [c2]
    exact q
theorem op_notIn3 (hu : X.A.units + 64 < cLine) : OpR X (compareOp .NotIn) (rIn3 X.K true) := by
  intro pins s σ H x y v u Q I rx ry h
  obtain ⟨p, xs, d, ds, rfl, hq, hi, hd, hk, q⟩ := h
  cases ry
  rcases hq with hq | hq
  · obtain ⟨its, r, pl, hz⟩ := I.list hq
    obtain ⟨c1, c2⟩ := in_core hu I rx hi hd hk r
    refine SeqAt.notIn_listAt (ansOf X.K H d ds) pl.isList (fun w hw => c1 w (by simpa using hw)) ⟨.bl _, H, I, rfl, ?_⟩
    rw [c2]
    exact q
  · obtain ⟨its, r, pl, hz⟩ := I.tuple hq
    obtain ⟨c1, c2⟩ := in_core hu I rx hi hd hk r
    refine SeqAt.notIn_tupleAt (ansOf X.K H d ds) pl (fun w hw => c1 w (by simpa using hw)) ⟨.bl _, H, I, rfl, ?_⟩
    rw [c2]
    exact q
end
section
variable {X : Cx} {Γ : List (Option D)} {a b c : Expr} {d d' : D} {pos p : Pos} {ds es : List D}
theorem isT {K : PySem.W.Frag} {F : Hp} {v : V} (h : Is K F (.tup ds) v) : ∃ a xs, v = .ref a ∧ SqT K F a xs ∧ IsL K F ds xs := by simpa only [Is] using h
theorem isLstR {K : PySem.W.Frag} {F : Hp} {v : V} (h : Is K F (.lst ds) v) : ∃ a xs, v = .ref a ∧ Rd F a (.lst xs) ∧ IsL K F ds xs := by simpa only [Is] using h
theorem isLst {K : PySem.W.Frag} {F : Hp} {v : V} (h : Is K F (.lst ds) v) : ∃ a xs, v = .ref a ∧ SqL K F a xs ∧ IsL K F ds xs := by
  obtain ⟨a, xs, e, r, i⟩ := isLstR h
  exact ⟨a, xs, e, .inl r, i⟩
theorem Is.tupI {K : PySem.W.Frag} {F : Hp} {a : Addr} {xs : List V} (h : SqT K F a xs) (i : IsL K F ds xs) : Is K F (.tup ds) (.ref a) := by simp only [Is]; exact ⟨a, xs, rfl, h, i⟩
theorem Is.lstI {K : PySem.W.Frag} {F : Hp} {a : Addr} {xs : List V} (h : Rd F a (.lst xs)) (i : IsL K F ds xs) : Is K F (.lst ds) (.ref a) := by simp only [Is]; exact ⟨a, xs, rfl, h, i⟩
theorem pf_cat (ha : P3 X Γ a (.lst ds)) (hb : P3 X Γ b (.lst es)) (hz : ds.length + es.length ≤ sizeLine) : PF3 X Γ (.BinOp a .Add b pos) (ds ++ es) :=
  PE.of (pe_op op_cat3 ha hb) fun σ H Q ⟨F, fh, sl, k⟩ => tP2 ⟨F, fh, sl, fun x y H2 F2 p i1 i2 => by
    obtain ⟨l, xs, rfl, s1, j1⟩ := isLst i1
    obtain ⟨l2, ys, rfl, s2, j2⟩ := isLst i2
    exact ⟨l, l2, xs, ys, rfl, rfl, p.fh.seq s1, p.fh.seq s2, by rw [j1.len, j2.len]; exact hz, fun q hq => k q _ _ F2 (p.trans (Pur.layOwn p.fh hq)) (p.hh.free hq) (p.fh.free hq) upd_same (j1.append j2)⟩⟩
theorem p_cat (ha : P3 X Γ a (.lst ds)) (hb : P3 X Γ b (.lst es)) (hz : ds.length + es.length ≤ sizeLine) : P3 X Γ (.BinOp a .Add b pos) (.lst (ds ++ es)) := (pf_cat ha hb hz).p
theorem p_catS {x y : Str} (ha : P3 X Γ a (.str x)) (hb : P3 X Γ b (.str y)) (hz : x.length + y.length ≤ sizeLine) : P3 X Γ (.BinOp a .Add b pos) (.str (x ++ y)) :=
  p_opR op_add_str ha hb fun v w H F Q fh i1 i2 k => ⟨x, y, isS i1, isS i2, hz, k _ _ _ (Pur.refl fh) (i_str F)⟩
theorem p_lenL (hm : X.mg "len" = none) (hg : Gl X "len") (ha : P3 X Γ a (.lst ds)) (he : starEach [a] X.env = (false, eval a X.env) :: starEach [] X.env := by rfl) : P3 X Γ (.Call (.Name "len" p) [a] [] pos) (.int ds.length) :=
  p_callB call_len_seq hg hm PySem.boot_len (pl_cons ha pl_nil he) (fun vs H F Q fh i k => by
    obtain ⟨x, rfl, j0⟩ := isL1 i
    obtain ⟨l, xs, rfl, s1, j1⟩ := isLst j0
    exact ⟨l, xs, rfl, .inl (fh.seq s1), k _ _ _ (Pur.refl fh) (by rw [j1.len]; exact i_int F)⟩) (by decide) (by decide) he
theorem p_lenT (hm : X.mg "len" = none) (hg : Gl X "len") (ha : P3 X Γ a (.tup ds)) (he : starEach [a] X.env = (false, eval a X.env) :: starEach [] X.env := by rfl) : P3 X Γ (.Call (.Name "len" p) [a] [] pos) (.int ds.length) :=
  p_callB call_len_seq hg hm PySem.boot_len (pl_cons ha pl_nil he) (fun vs H F Q fh i k => by
    obtain ⟨x, rfl, j0⟩ := isL1 i
    obtain ⟨l, xs, rfl, s1, j1⟩ := isT j0
    exact ⟨l, xs, rfl, .inr (same_tup fh s1), k _ _ _ (Pur.refl fh) (by rw [j1.len]; exact i_int F)⟩) (by decide) (by decide) he
theorem p_lenI {ns : List Int} (hm : X.mg "len" = none) (hg : Gl X "len") (ha : P3 X Γ a (.scr ns)) (he : starEach [a] X.env = (false, eval a X.env) :: starEach [] X.env := by rfl) : P3 X Γ (.Call (.Name "len" p) [a] [] pos) (.int ns.length) :=
  p_callB call_len_seq hg hm PySem.boot_len (pl_cons ha pl_nil he) (fun vs H F Q fh i k => by
    obtain ⟨x, rfl, j0⟩ := isL1 i
    simp only [Is] at j0
    obtain ⟨l, rfl, s1⟩ := j0
    exact ⟨l, _, rfl, .inl (fh.seq s1), k _ _ _ (Pur.refl fh) (by rw [List.length_map]; exact i_int F)⟩) (by decide) (by decide) he
theorem p_ixI {ns : List Int} {i n : Int} (ha : P3 X Γ a (.scr ns)) (hb : P3 X Γ b (.int i)) (he : atI ns i = some n) (hs : PlainIx b := by exact fun _ _ => rfl) : P3 X Γ (.Subscript a b pos) (.int n) :=
  p_ixR ix_list ha hb (fun x y H F Q fh i1 i2 k => by
    simp only [Is] at i1 i2
    obtain ⟨l, rfl, h1⟩ := i1
    refine ⟨l, _, i, .int n, rfl, i2, fh.seq h1, ?_, k _ H F (Pur.refl fh) (i_int F)⟩
    unfold atI at he ⊢
    rw [List.length_map]
    cases q : ixN ns.length i with
    | none => rw [q] at he; cases he
    | some j =>
      rw [q] at he
      have he' : ns[j]? = some n := he
      show (ns.map V.int)[j]? = _
      rw [List.getElem?_map, he']
      rfl) hs
theorem p_lenS {x : Str} (hm : X.mg "len" = none) (hg : Gl X "len") (ha : P3 X Γ a (.str x)) (hz : x.length ≤ sizeLine) (he : starEach [a] X.env = (false, eval a X.env) :: starEach [] X.env := by rfl) : P3 X Γ (.Call (.Name "len" p) [a] [] pos) (.int x.length) :=
  p_callB call_len_str hg hm PySem.boot_len (pl_cons ha pl_nil he) (fun vs H F Q fh i k => by
    obtain ⟨v, rfl, j0⟩ := isL1 i
    exact ⟨x, by rw [isS j0], hz, k _ _ _ (Pur.refl fh) (i_int F)⟩) (by decide) (by decide) he
theorem bt_int : bootBuiltins "int" = some (.type "int") := by decide +kernel
theorem bt_bool : bootBuiltins "bool" = some (.type "bool") := by decide +kernel
theorem bt_dict : bootBuiltins "dict" = some (.type "dict") := by decide +kernel
theorem bt_tuple : bootBuiltins "tuple" = some (.type "tuple") := by decide +kernel
theorem bt_list : bootBuiltins "list" = some (.type "list") := by decide +kernel
theorem bt_isinstance : bootBuiltins "isinstance" = some (.builtin "isinstance") := by decide +kernel
theorem pf_list (hm : X.mg "list" = none) (hg : Gl X "list") (ha : P3 X Γ a d) (hd : d = .lst ds ∨ d = .tup ds) (he : starEach [a] X.env = (false, eval a X.env) :: starEach [] X.env := by rfl) : PF3 X Γ (.Call (.Name "list" p) [a] [] pos) ds :=
  PE.of (pe_callTy call_list_of hg hm bt_list (pl_cons ha pl_nil he) (by decide) (by decide) he) fun σ H Q ⟨F, fh, sl, q⟩ => ⟨F, fh, sl, fun vs H' F' pu i => by
    obtain ⟨x, rfl, j0⟩ := isL1 i
    rcases hd with rfl | rfl
    · obtain ⟨l, xs, rfl, s1, j1⟩ := isLst j0
      exact ⟨l, xs, rfl, .inl (pu.fh.seq s1), fun l' hl => q l' _ _ F' (pu.trans (Pur.layOwn pu.fh hl)) (pu.hh.free hl) (pu.fh.free hl) upd_same j1⟩
    · obtain ⟨l, xs, rfl, s1, j1⟩ := isT j0
      exact ⟨l, xs, rfl, .inr (same_tup pu.fh s1), fun l' hl => q l' _ _ F' (pu.trans (Pur.layOwn pu.fh hl)) (pu.hh.free hl) (pu.fh.free hl) upd_same j1⟩⟩
theorem p_isin {t : Value} {cv : V} {k : Bool} (hm : X.mg "isinstance" = none) (hg : Gl X "isinstance") (ha : P3 X Γ a d) (hb : P3 X Γ b (.raw cv)) (ht : dTy d = some t) (hk : PySem.W.kitOne X.K t (cV cv) = some k) (hc : cV cv ≠ .none)
    (he : starEach [a, b] X.env = (false, eval a X.env) :: starEach [b] X.env := by rfl) (he2 : starEach [b] X.env = (false, eval b X.env) :: starEach [] X.env := by rfl) (hpl : (backTo pos (starEach [b] X.env)).any (·.1) = false := by rfl) : P3 X Γ (.Call (.Name "isinstance" p) [a, b] [] pos) (.bl k) :=
  p_callB call_isin3 hg hm bt_isinstance (pl_cons ha (pl_cons hb pl_nil he2) he) (fun vs H F Q fh i q => by
    obtain ⟨x, y, rfl, i1, i2⟩ := isL2 i
    cases isR i2
    exact ⟨x, _, d, t, k, rfl, i1.mono fh, ht, hk, hc, q _ _ _ (Pur.refl fh) (i_bl F)⟩) (by decide) (by decide) he hpl
theorem c_in (hu : X.A.units + 64 < cLine) (ha : P3 X Γ a d) (hb : P3 X Γ b d') (hd : d' = .lst ds ∨ d' = .tup ds) (hk : ∀ e ∈ ds, kin e d = true ∧ dep e ≤ 60) : C3 X Γ a .In b (inD d ds) :=
  c_R (op_in3 hu) ha hb fun x y H F Q fh i1 i2 q => by
    rcases hd with rfl | rfl
    · obtain ⟨l, xs, rfl, s1, j1⟩ := isLst i2
      exact ⟨l, xs, d, ds, rfl, .inl (fh.seq s1), j1.mono fh, i1.mono fh, hk, q⟩
    · obtain ⟨l, xs, rfl, s1, j1⟩ := isT i2
      exact ⟨l, xs, d, ds, rfl, .inr (same_tup fh s1), j1.mono fh, i1.mono fh, hk, q⟩
theorem c_notIn (hu : X.A.units + 64 < cLine) (ha : P3 X Γ a d) (hb : P3 X Γ b d') (hd : d' = .lst ds ∨ d' = .tup ds) (hk : ∀ e ∈ ds, kin e d = true ∧ dep e ≤ 60) : C3 X Γ a .NotIn b (!inD d ds) :=
  c_R (op_notIn3 hu) ha hb fun x y H F Q fh i1 i2 q => by
    rcases hd with rfl | rfl
    · obtain ⟨l, xs, rfl, s1, j1⟩ := isLst i2
      exact ⟨l, xs, d, ds, rfl, .inl (fh.seq s1), j1.mono fh, i1.mono fh, hk, q⟩
    · obtain ⟨l, xs, rfl, s1, j1⟩ := isT i2
      exact ⟨l, xs, d, ds, rfl, .inr (same_tup fh s1), j1.mono fh, i1.mono fh, hk, q⟩
end
end L3
set_option Elab.async false
set_option linter.all false
set_option maxRecDepth 100000
set_option maxHeartbeats 4000000
namespace L3
open PySem PySem.Spec PySem.Calls PyProof.Rows L2
structure Bs where
  M : List Addr
  F : Hp
  H : Hp
abbrev Ow := Hp → HO → Prop
abbrev Om := List (Addr × Ow)
abbrev Ga := List (Option D)
def oLst (K : PySem.W.Frag) (ds : List D) : Ow := fun F o => ∃ xs, o = .lst xs ∧ IsL K F ds xs
structure Sat (K : PySem.W.Frag) (B : Bs) (Γ : Ga) (Ω : Om) (F : Hp) (σ : L2.St) (H : Hp) : Prop where
  f0 : Same B.F F
  fh : Same F H
  fr : ∀ b, F b ≠ none → B.F b ≠ none ∨ B.H b = none ∨ b ∈ B.M
  kp : ∀ b o, b ∉ B.M → B.H b = some o → H b = some o
  nd : (Ω.map (·.1)).Nodup
  od : ∀ p ∈ Ω, p.1 ∈ B.M ∨ B.H p.1 = none
  own : ∀ p ∈ Ω, F p.1 = none ∧ ∃ o, H p.1 = some o ∧ ∀ F', Same F F' → p.2 F' o
  sl : Sl K F Γ σ
section
variable {K : PySem.W.Frag} {B : Bs} {Γ Γ' : Ga} {Ω : Om} {F F' : Hp} {σ σ' : L2.St} {H H' : Hp}
theorem Sat.freeB (S : Sat K B Γ Ω F σ H) {b : Addr} (h : H b = none) : B.H b = none ∨ b ∈ B.M := by
  by_cases hb : b ∈ B.M
  · exact .inr hb
  · refine .inl ?_
    cases q : B.H b with
    | none => rfl
    | some o => rw [S.kp b o hb q] at h; cases h
theorem Sat.pur (S : Sat K B Γ Ω F σ H) (p : Pur F H F' H') : Sat K B Γ Ω F' σ H' where
  f0 := S.f0.trans p.ff
  fh := p.fh
  fr := fun b q => (p.new b q).elim (fun z => S.fr b z) fun z => (S.freeB z).elim (fun w => .inr (.inl w)) fun w => .inr (.inr w)
  kp := fun b o hb e => p.hh _ _ (S.kp b o hb e)
  nd := S.nd
  od := S.od
  own := fun q hq => by
    obtain ⟨h1, o, h2, h3⟩ := S.own q hq
    refine ⟨?_, o, p.hh _ _ h2, fun F2 e => h3 F2 (p.ff.trans e)⟩
    cases z : F' q.1 with
    | none => rfl
    | some u =>
      rcases p.new q.1 (by rw [z]; simp) with w | w
      · exact absurd h1 w
      · rw [h2] at w; cases w
  sl := S.sl.mono p.ff
theorem Sat.slots (S : Sat K B Γ Ω F σ H) (h : Sl K F Γ' σ') : Sat K B Γ' Ω F σ' H := ⟨S.f0, S.fh, S.fr, S.kp, S.nd, S.od, S.own, h⟩
theorem Sl.set {i : Nat} {d : D} {v : V} (h : Sl K F Γ σ) (hi : i < σ.length) (hv : Is K F d v) : Sl K F (Γ.set i (some d)) (σ.set i (some v)) := fun j e q => by
  by_cases hj : i = j
  · subst hj
    rw [List.getElem?_set] at q
    split at q
    · split at q
      · cases q
        exact ⟨v, by rw [List.getElem?_set]; simp [hi], hv⟩
      · cases q
    · contradiction
  · rw [List.getElem?_set_ne hj] at q
    obtain ⟨u, h1, h2⟩ := h j e q
    exact ⟨u, by rw [List.getElem?_set_ne hj]; exact h1, h2⟩
theorem Sl.nil : Sl K F [] σ := fun j e q => by simp at q
theorem Sat.toPur (S : Sat K B Γ Ω F σ H) (hM : B.M = []) : Pur B.F B.H F H := ⟨S.f0, S.fh, fun b o e => S.kp b o (by rw [hM]; simp) e, fun b q => (S.fr b q).elim .inl fun z => z.elim .inr fun w => by rw [hM] at w; cases w⟩
end
structure E3 where
  nx : Ga → Om → Prop
  rt : D → Om → Prop
  bk : Ga → Om → Prop := fun _ _ => False
  ct : Ga → Om → Prop := fun _ _ => False
def nX (K : PySem.W.Frag) (B : Bs) (F0 : Hp) (N : Ga → Om → Prop) : L2.St → Hp → Prop := fun σ H => ∃ Γ Ω F, Sat K B Γ Ω F σ H ∧ Same F0 F ∧ N Γ Ω
def E3.to (K : PySem.W.Frag) (B : Bs) (F0 : Hp) (E : E3) : Ends := ⟨nX K B F0 E.nx, fun v H => ∃ d Ω F, (∃ σ, Sat K B [] Ω F σ H) ∧ Same F0 F ∧ Is K F d v ∧ E.rt d Ω, nX K B F0 E.bk, nX K B F0 E.ct⟩
theorem nX.mono {K : PySem.W.Frag} {B : Bs} {F0 F1 : Hp} {N : Ga → Om → Prop} {σ : L2.St} {H : Hp} (e : Same F0 F1) (h : nX K B F1 N σ H) : nX K B F0 N σ H := by
  obtain ⟨Γ, Ω, F, S, f, n⟩ := h
  exact ⟨Γ, Ω, F, S, e.trans f, n⟩
def WS (X : Cx) (sts : List Stmt) : TS := fun D σ H => ∀ (pins : List (Addr × Obj)) (s : Shared), Inv X pins σ H s → wpAny (model X.prog X.w) X.A (execs sts X.env) (SP X pins D) X.xe s
def WE (X : Cx) (e : Expr) : TE := fun σ H Q => ∀ (pins : List (Addr × Obj)) (s : Shared), Inv X pins σ H s → wpAny (model X.prog X.w) X.A (eval e X.env) (EP X pins σ Q) X.xe s
def WT (X : Cx) (e : Expr) : TT := fun σ H Q => ∀ (pins : List (Addr × Obj)) (s : Shared), Inv X pins σ H s → wpAny (model X.prog X.w) X.A (isTrue e X.env (eval e X.env)) (TP X pins σ Q) X.xe s
theorem pss_w {X : Cx} {sts : List Stmt} : PSs X sts (WS X sts) := fun pins s σ H D I h => h pins s I
theorem pe_w {X : Cx} {e : Expr} : PE X e (WE X e) := fun pins s σ H Q I h => h pins s I
theorem pt_w {X : Cx} {e : Expr} : PT X e (WT X e) := fun pins s σ H Q I h => h pins s I
theorem PT3.wt {X : Cx} {Γ : Ga} {e : Expr} {k : Bool} (h : PT3 X Γ e k) {σ : L2.St} {H : Hp} {Q : Bool → Hp → Prop} (q : tPT X.K Γ k σ H Q) : WT X e σ H Q := fun pins s I => h pins s σ H Q I q
theorem P3.we {X : Cx} {Γ : Ga} {e : Expr} {d : D} (h : P3 X Γ e d) {σ : L2.St} {H : Hp} {Q : VK} (q : tP X.K Γ d σ H Q) : WE X e σ H Q := fun pins s I => h pins s σ H Q I q
def W3 (X : Cx) (B : Bs) (sts : List Stmt) (Γ : Ga) (Ω : Om) (E : E3) : Prop := ∀ F σ H, Sat X.K B Γ Ω F σ H → WS X sts (E.to X.K B F) σ H
section
variable {X : Cx} {B : Bs} {Γ : Ga} {Ω : Om} {E : E3} {rest body : List Stmt} {e c : Expr} {d : D} {pos pos' : Pos} {k : Bool}
theorem ends_mono {D D' : Ends} (hn : ∀ σ H, D.nx σ H → D'.nx σ H) (hr : ∀ v H, D.rt v H → D'.rt v H) (hb : ∀ σ H, D.bk σ H → D'.bk σ H) (hc : ∀ σ H, D.ct σ H → D'.ct σ H) {σ : L2.St} {H : Hp} (h : WS X body D σ H) : WS X body D' σ H := fun pins s I =>
  thn (h pins s I) fun f s' q => by
    cases f with
    | next => obtain ⟨σ', H', I', q⟩ := q; exact ⟨σ', H', I', hn _ _ q⟩
    | brk => obtain ⟨σ', H', I', q⟩ := q; exact ⟨σ', H', I', hb _ _ q⟩
    | cont => obtain ⟨σ', H', I', q⟩ := q; exact ⟨σ', H', I', hc _ _ q⟩
    | ret u => obtain ⟨v, σ', H', I', r, q⟩ := q; exact ⟨v, σ', H', I', r, hr _ _ q⟩
theorem to_mono {F0 F1 : Hp} (e : Same F0 F1) {σ : L2.St} {H : Hp} (h : WS X body (E.to X.K B F1) σ H) : WS X body (E.to X.K B F0) σ H :=
  ends_mono (D := E.to X.K B F1) (D' := E.to X.K B F0) (fun _ _ q => q.mono e) (fun v H ⟨d, Ω, F, S, f, i, r⟩ => ⟨d, Ω, F, S, e.trans f, i, r⟩) (fun _ _ q => q.mono e) (fun _ _ q => q.mono e) h
theorem w_nil (h : E.nx Γ Ω) : W3 X B [] Γ Ω E := fun F σ H S pins s I => pss_nil pins s σ H _ I ⟨Γ, Ω, F, S, Same.refl _, h⟩
theorem w_set {i : Nat} {x : Str} (hN : X.N.Nodup) (hi : X.N[i]? = some x) (hx : Loc X.env.scope x) (he : P3 X Γ e d) (h : W3 X B rest (Γ.set i (some d)) Ω E) (hs : swapsWith e (some (.Name x pos')) pos.line X.env = pure false := by rfl)
    (hf : X.fn x = true ∨ X.env.scope.names.lookup x = some .local := by first | exact .inl rfl | exact .inr rfl | assumption) : W3 X B (.Assign [.Name x pos'] e pos :: rest) Γ Ω E := fun F σ H S pins s I =>
  pss_cons (ps_set hN hi hx he hs hf) pss_w pins s σ H _ I ⟨F, S.fh, S.sl, fun v H' F' p i' => to_mono p.ff (h F' _ H' ((S.pur p).slots (Sl.set (S.sl.mono p.ff) (by rw [I.len]; exact (List.getElem?_eq_some_iff.mp hi).1) i')))⟩
theorem w_ret (he : P3 X Γ e d) (h : E.rt d Ω) : W3 X B (.Return (some e) pos :: rest) Γ Ω E := fun F σ H S pins s I =>
  pss_cons (ps_ret he) pss_never pins s σ H _ I ⟨F, S.fh, S.sl, fun v H' F' p i' => ⟨d, Ω, F', ⟨σ, (S.pur p).slots Sl.nil⟩, p.ff, i', h⟩⟩
theorem w_expr (he : P3 X Γ e d) (h : W3 X B rest Γ Ω E) (hs : swapsWith e none pos.line X.env = pure false := by rfl) : W3 X B (.Expr e pos :: rest) Γ Ω E := fun F σ H S pins s I =>
  pss_cons (ps_expr he hs) pss_w pins s σ H _ I ⟨F, S.fh, S.sl, fun v H' F' p i' => to_mono p.ff (h F' _ H' (S.pur p))⟩
abbrev E3.then (E : E3) (X : Cx) (B : Bs) (rest : List Stmt) : E3 := { E with nx := fun Γ' Ω' => W3 X B rest Γ' Ω' E }
theorem nx_rest {F : Hp} {σ : L2.St} {H : Hp} (h : nX X.K B F (fun Γ' Ω' => W3 X B rest Γ' Ω' E) σ H) : WS X rest (E.to X.K B F) σ H := by
  obtain ⟨Γ', Ω', F', S, f, w⟩ := h
  exact to_mono f (w F' σ H S)
theorem seq_rest {F : Hp} {σ : L2.St} {H : Hp} (h : WS X body ((E.then X B rest).to X.K B F) σ H) : WS X body { (E.to X.K B F) with nx := WS X rest (E.to X.K B F) } σ H :=
  ends_mono (D := (E.then X B rest).to X.K B F) (D' := { (E.to X.K B F) with nx := WS X rest (E.to X.K B F) }) (fun _ _ q => nx_rest q) (fun _ _ q => q) (fun _ _ q => q) (fun _ _ q => q) h
theorem w_if {a b : List Stmt} (hc : PT3 X Γ c k) (ht : k = true → W3 X B a Γ Ω (E.then X B rest)) (hf : k = false → W3 X B b Γ Ω (E.then X B rest)) : W3 X B (.If c a b pos :: rest) Γ Ω E := fun F σ H S pins s I => by
  cases k with
  | true => exact pss_cons (ps_if hc pss_w pss_never) pss_w pins s σ H _ I ⟨F, S.fh, S.sl, fun H' F' p => iteT (seq_rest (to_mono p.ff (ht rfl F' σ H' (S.pur p))))⟩
  | false => exact pss_cons (ps_if hc pss_never pss_w) pss_w pins s σ H _ I ⟨F, S.fh, S.sl, fun H' F' p => iteF (seq_rest (to_mono p.ff (hf rfl F' σ H' (S.pur p))))⟩
theorem w_while (hp : PassesOwn (model X.prog X.w) X.A X.env X.xe) (J : Ga → Om → Prop) (μ : Ga → Om → Nat) (h0 : J Γ Ω)
    (step : ∀ Γ Ω, J Γ Ω → ∃ k, PT3 X Γ c k ∧ (k = true → W3 X B body Γ Ω { E with nx := fun Γ' Ω' => J Γ' Ω' ∧ μ Γ' Ω' < μ Γ Ω, ct := fun Γ' Ω' => J Γ' Ω' ∧ μ Γ' Ω' < μ Γ Ω, bk := fun Γ' Ω' => W3 X B rest Γ' Ω' E }) ∧ (k = false → W3 X B rest Γ Ω E)) :
    W3 X B (.While c body [] pos :: rest) Γ Ω E := fun F σ H S pins s I => by
  refine pss_cons (ps_while hp pt_w pss_w) pss_w pins s σ H _ I ⟨fun m σ H => ∃ Γ Ω F1, Sat X.K B Γ Ω F1 σ H ∧ Same F F1 ∧ J Γ Ω ∧ μ Γ Ω = m, ⟨_, Γ, Ω, F, S, Same.refl _, h0, rfl⟩, ?_⟩
  rintro m σ H ⟨Γ, Ω, F1, S, f1, j, rfl⟩
  obtain ⟨k, hc, ht, hf⟩ := step Γ Ω j
  refine hc.wt ⟨F1, S.fh, S.sl, fun H' F' p => ?_⟩
  cases k with
  | true =>
    refine iteT ⟨nX X.K B F fun Γ' Ω' => J Γ' Ω' ∧ μ Γ' Ω' < μ Γ Ω, ?_, ends_mono (D := E3.to X.K B F { E with nx := fun Γ' Ω' => J Γ' Ω' ∧ μ Γ' Ω' < μ Γ Ω, ct := fun Γ' Ω' => J Γ' Ω' ∧ μ Γ' Ω' < μ Γ Ω, bk := fun Γ' Ω' => W3 X B rest Γ' Ω' E })
      (D' := { nx := nX X.K B F fun Γ' Ω' => J Γ' Ω' ∧ μ Γ' Ω' < μ Γ Ω, rt := (E.to X.K B F).rt, bk := WS X rest (E.to X.K B F), ct := nX X.K B F fun Γ' Ω' => J Γ' Ω' ∧ μ Γ' Ω' < μ Γ Ω }) (fun _ _ q => q) (fun _ _ q => q) (fun _ _ q => nx_rest q) (fun _ _ q => q) (to_mono (f1.trans p.ff) (ht rfl F' σ H' (S.pur p)))⟩
    rintro σ' H' ⟨Γ', Ω', F', S', f', j', l⟩
    exact ⟨_, l, Γ', Ω', F', S', f', j', rfl⟩
  | false => exact iteF (to_mono (f1.trans p.ff) (hf rfl F' σ H' (S.pur p)))
end
def G3 (X : Cx) (tg : Expr) (Γ : Ga) (d : D) (Γ' : Ga) : Prop := ∃ g, PG X tg g ∧ ∀ (F : Hp) (σ : L2.St) (H : Hp) (v : V) (Q : L2.St → Hp → Prop), Same F H → Is X.K F d v → Sl X.K F Γ σ → σ.length = X.N.length → (∀ σ', Sl X.K F Γ' σ' → σ'.length = X.N.length → Q σ' H) → g v σ H Q
def GL3 (X : Cx) (tg : List Expr) (Γ : Ga) (ds : List D) (Γ' : Ga) : Prop := ∃ g, PGs X tg g ∧ ∀ (F : Hp) (σ : L2.St) (H : Hp) (vs : List V) (Q : L2.St → Hp → Prop), Same F H → IsL X.K F ds vs → Sl X.K F Γ σ → σ.length = X.N.length → (∀ σ', Sl X.K F Γ' σ' → σ'.length = X.N.length → Q σ' H) → g vs σ H Q
section
variable {X : Cx} {Γ Γ1 Γ2 : Ga} {d : D} {ds : List D} {pos : Pos} {tg : Expr} {tgs : List Expr}
theorem g_name {i : Nat} {x : Str} (hN : X.N.Nodup) (hi : X.N[i]? = some x) (hx : Loc X.env.scope x) (hf : X.fn x = true ∨ X.env.scope.names.lookup x = some .local := by first | exact .inl rfl | exact .inr rfl | assumption) : G3 X (.Name x pos) Γ d (Γ.set i (some d)) :=
  ⟨_, pg_name hN hi hx hf, fun F σ H v Q fh iv sl hl q => q _ (sl.set (by rw [hl]; exact (List.getElem?_eq_some_iff.mp hi).1) iv) (by rw [List.length_set]; exact hl)⟩
theorem gl_nil : GL3 X [] Γ [] Γ := ⟨_, pgs_nil, fun F σ H vs Q fh iv sl hl q => by
  simp only [IsL] at iv
  exact ⟨iv, q σ sl hl⟩⟩
theorem gl_cons (h1 : G3 X tg Γ d Γ1) (h2 : GL3 X tgs Γ1 ds Γ2) (hs : ∀ {g : TG} {u : TGs}, PG X tg g → PGs X tgs u → PGs X (tg :: tgs) (gCons g u) := by exact fun a b => pgs_cons a b) : GL3 X (tg :: tgs) Γ (d :: ds) Γ2 := by
  obtain ⟨g, p1, q1⟩ := h1
  obtain ⟨u, p2, q2⟩ := h2
  refine ⟨_, hs p1 p2, fun F σ H vs Q fh iv sl hl q => ?_⟩
  simp only [IsL] at iv
  obtain ⟨x, r, rfl, i1, i2⟩ := iv
  exact ⟨x, r, rfl, q1 F σ H x _ fh i1 sl hl fun σ' sl' hl' => q2 F σ' H r _ fh i2 sl' hl' q⟩
theorem g_tup {k : Nat} (hc : X.calm = true) (h : GL3 X tgs Γ ds Γ1) (hn : (assignEach tgs X.env).length = ds.length := by rfl) (hst : (assignEach tgs X.env).findIdx? (·.1) = none := by rfl) : G3 X (.Tuple tgs k pos) Γ (.tup ds) Γ1 := by
  obtain ⟨g, p, q⟩ := h
  refine ⟨_, pg_tup hc p hn hst, fun F σ H v Q fh iv sl hl k => ?_⟩
  obtain ⟨a, xs, rfl, h1, h2⟩ := isT iv
  exact ⟨a, xs, rfl, same_tup fh h1, h2.len, q F σ H xs Q fh h2 sl hl k⟩
end
def Walk3 (K : PySem.W.Frag) (F0 : Hp) (J : It) (ds : List D) : Prop := ∀ (i : Nat) (F H : Hp), Same F0 F → Same F H →
  (∀ d, ds[i]? = some d → J.go i H ∧ ∀ x H', J.yld i H x H' → ∃ F', Pur F H F' H' ∧ Is K F' d x) ∧ (ds.length ≤ i → J.stop i H)
def I3 (X : Cx) (Γ : Ga) (tg iter : Expr) (ds : List D) : Prop := PI X tg iter fun σ H R => ∃ F, Same F H ∧ Sl X.K F Γ σ ∧ ∀ J H' F', Pur F H F' H' → Walk3 X.K F' J ds → R J H'
theorem PI.of {X : Cx} {tg e : Expr} {t u : TI} (h : PI X tg e t) (i : ∀ σ H R, u σ H R → t σ H R) : PI X tg e u := fun pins s σ H Q I hq => h pins s σ H Q I (i _ _ _ hq)
section
variable {X : Cx} {Γ Γ1 : Ga} {d : D} {ds es : List D} {pos p : Pos} {tg a b : Expr}
theorem i_list (hl : P3 X Γ a (.lst ds)) : I3 X Γ tg a ds := PI.of (pi_list hl) fun σ H R ⟨F, fh, sl, q⟩ => ⟨F, fh, sl, fun v H' F' p i => by
  obtain ⟨l, xs, rfl, s1, j1⟩ := isLst i
  refine ⟨l, rfl, ⟨xs, p.fh.seq s1⟩, q _ H' F' p fun n F2 H2 e1 e2 => ⟨fun d w => ?_, fun w => ⟨xs, (e1.trans e2).seq s1, by rw [j1.len]; exact w⟩⟩⟩
  obtain ⟨x, hx, ix⟩ := j1.get w
  refine ⟨⟨xs, x, (e1.trans e2).seq s1, hx⟩, fun y H3 ⟨z, w'⟩ => ?_⟩
  subst z
  have := w' xs ((e1.trans e2).seq s1)
  rw [hx] at this
  cases this
  exact ⟨F2, Pur.refl e2, ix.mono e1⟩⟩
theorem i_tup (hl : P3 X Γ a (.tup ds)) : I3 X Γ tg a ds := PI.of (pi_tup hl) fun σ H R ⟨F, fh, sl, q⟩ => ⟨F, fh, sl, fun v H' F' p i => by
  obtain ⟨l, xs, rfl, s1, j1⟩ := isT i
  refine ⟨l, rfl, ⟨xs, same_tup p.fh s1⟩, q _ H' F' p fun n F2 H2 e1 e2 => ⟨fun d w => ?_, fun w => ⟨xs, same_tup (e1.trans e2) s1, by rw [j1.len]; exact w⟩⟩⟩
  obtain ⟨x, hx, ix⟩ := j1.get w
  refine ⟨⟨xs, x, same_tup (e1.trans e2) s1, hx⟩, fun y H3 ⟨z, w'⟩ => ?_⟩
  subst z
  have := w' xs (same_tup (e1.trans e2) s1)
  rw [hx] at this
  cases this
  exact ⟨F2, Pur.refl e2, ix.mono e1⟩⟩
def rngD (lo : Int) (n : Nat) : List D := (List.range n).map fun (j : Nat) => .int (lo + (j : Int))
theorem walk_rng {K : PySem.W.Frag} {F0 : Hp} {lo : Int} {n : Nat} : Walk3 K F0 (Itr lo n) (rngD lo n) := fun i F H e1 e2 =>
  ⟨fun d q => by
    unfold rngD at q
    rw [List.getElem?_map] at q
    have hi : i < n := by
      by_cases h : i < n
      · exact h
      · rw [List.getElem?_eq_none_iff.mpr (by simpa using h)] at q; cases q
    rw [List.getElem?_range hi] at q
    cases q
    refine ⟨hi, fun x H' ⟨z, w⟩ => ?_⟩
    subst z w
    exact ⟨F, Pur.refl e2, i_int F⟩, fun q => by
    unfold rngD at q
    have q' : n ≤ i := by simpa using q
    exact q'⟩
theorem i_range1 {j : Int} (hm : X.mg "range" = none) (hg : Gl X "range") (ha : P3 X Γ a (.int j)) (h1 : -(2 ^ 62) ≤ j) (h2 : j < 2 ^ 62) (hs : starEach [a] X.env = [(false, eval a X.env)] := by rfl) : I3 X Γ tg (.Call (.Name "range" p) [a] [] pos) (rngD 0 j.toNat) :=
  PI.of (pi_range1 hg hm (pl_cons ha pl_nil hs) hs) fun σ H R ⟨F, fh, sl, q⟩ => ⟨F, fh, sl, fun vs H' F' pu i => by
    obtain ⟨x, rfl, j0⟩ := isL1 i
    exact ⟨j, by rw [isI j0], h1, h2, q _ H' F' pu walk_rng⟩⟩
theorem i_range2 {i j : Int} (hm : X.mg "range" = none) (hg : Gl X "range") (ha : P3 X Γ a (.int i)) (hb : P3 X Γ b (.int j)) (h1 : -(2 ^ 62) ≤ i ∧ i < 2 ^ 62 ∧ -(2 ^ 62) ≤ j ∧ j < 2 ^ 62) (hs : starEach [a, b] X.env = [(false, eval a X.env), (false, eval b X.env)] := by rfl) (hs2 : starEach [b] X.env = [(false, eval b X.env)] := by rfl) :
    I3 X Γ tg (.Call (.Name "range" p) [a, b] [] pos) (rngD i (j - i).toNat) :=
  PI.of (pi_range2 hg hm (pl_cons ha (pl_cons hb pl_nil hs2) (hs.trans (by rw [hs2]))) hs hs2) fun σ H R ⟨F, fh, sl, q⟩ => ⟨F, fh, sl, fun vs H' F' pu iv => by
    obtain ⟨x, y, rfl, j0, j1⟩ := isL2 iv
    exact ⟨i, j, by rw [isI j0, isI j1], h1, q _ H' F' pu walk_rng⟩⟩
def enumD (ds : List D) : List D := ds.mapIdx fun i d => .tup [.int (i : Int), d]
theorem i_enum {es' : List Expr} {x1 : Nat} {tpos : Pos} (hm : X.mg "enumerate" = none) (hg : Gl X "enumerate") (ha : P3 X Γ a (.lst ds)) (hs : starEach [a] X.env = [(false, eval a X.env)] := by rfl) :
    I3 X Γ (.Tuple es' x1 tpos) (.Call (.Name "enumerate" p) [a] [] pos) (enumD ds) :=
  PI.of (pi_enum hg hm (pl_cons ha pl_nil hs) hs) fun σ H R ⟨F, fh, sl, q⟩ => ⟨F, fh, sl, fun vs H' F' pu iv => by
    obtain ⟨x, rfl, j0⟩ := isL1 iv
    obtain ⟨l, xs, rfl, s1, j1⟩ := isLstR j0
    refine ⟨l, xs, rfl, same_rd pu.fh s1, fun K => q _ H' F' pu fun n F2 H2 e1 e2 => ⟨fun d w => ?_, fun w => ?_⟩⟩
    · unfold enumD at w
      rw [List.getElem?_mapIdx] at w
      cases z : ds[n]? with
      | none => rw [z] at w; cases w
      | some d0 =>
        rw [z] at w
        cases w
        obtain ⟨y, hy, iy⟩ := j1.get z
        have hl : SqL K H2 l xs := .inl (same_rd (e1.trans e2) s1)
        refine ⟨⟨xs, y, hl, hy⟩, fun v H3 ⟨T, y', hT, hv, hy', e3⟩ => ?_⟩
        subst hv e3
        have := hy' xs hl
        rw [hy] at this
        cases this
        refine ⟨_, Pur.lay e2 hT, Is.tupI (.inl (.inl upd_same)) (IsL.cons (i_int _) (IsL.cons (iy.mono (e1.trans (Pur.lay e2 hT).ff)) IsL.nil))⟩
    · unfold enumD at w
      rw [List.length_mapIdx] at w
      exact ⟨xs, .inl (same_rd (e1.trans e2) s1), by rw [j1.len]; exact w⟩⟩
def zipD (ds es : List D) : List D := (ds.zip es).map fun p => .tup [p.1, p.2]
theorem i_zip {es' : List Expr} {x1 : Nat} {tpos : Pos} (hm : X.mg "zip" = none) (hg : Gl X "zip") (ha : P3 X Γ a (.lst ds)) (hb : P3 X Γ b (.lst es)) (hs : starEach [a, b] X.env = [(false, eval a X.env), (false, eval b X.env)] := by rfl) (hs2 : starEach [b] X.env = [(false, eval b X.env)] := by rfl) :
    I3 X Γ (.Tuple es' x1 tpos) (.Call (.Name "zip" p) [a, b] [] pos) (zipD ds es) :=
  PI.of (pi_zip hg hm (pl_cons ha (pl_cons hb pl_nil hs2) (hs.trans (by rw [hs2]))) hs hs2) fun σ H R ⟨F, fh, sl, q⟩ => ⟨F, fh, sl, fun vs H' F' pu iv => by
    obtain ⟨x, y, rfl, j0, j00⟩ := isL2 iv
    obtain ⟨l, xs, rfl, s1, j1⟩ := isLst j0
    obtain ⟨l2, ys, rfl, s2, j2⟩ := isLst j00
    refine ⟨l, l2, xs, ys, rfl, pu.fh.seq s1, pu.fh.seq s2, q _ H' F' pu fun n F2 H2 e1 e2 => ⟨fun d w => ?_, fun w => ?_⟩⟩
    · unfold zipD at w
      rw [List.getElem?_map] at w
      cases z : (ds.zip es)[n]? with
      | none => rw [z] at w; cases w
      | some d0 =>
        rw [z] at w
        cases w
        obtain ⟨z1, z2⟩ := List.getElem?_zip_eq_some.mp z
        obtain ⟨x, hx, ix⟩ := j1.get z1
        obtain ⟨y, hy, iy⟩ := j2.get z2
        have h1 := (e1.trans e2).seq s1
        have h2 := (e1.trans e2).seq s2
        refine ⟨⟨xs, ys, x, y, h1, h2, hx, hy⟩, fun v H3 ⟨T, x', y', hT, hv, hx', hy', e3⟩ => ?_⟩
        subst hv e3
        have t1 := hx' xs h1
        have t2 := hy' ys h2
        rw [hx] at t1
        rw [hy] at t2
        cases t1
        cases t2
        refine ⟨_, Pur.lay e2 hT, Is.tupI (.inl (.inl upd_same)) (IsL.cons (ix.mono (e1.trans (Pur.lay e2 hT).ff)) (IsL.cons (iy.mono (e1.trans (Pur.lay e2 hT).ff)) IsL.nil))⟩
    · unfold zipD at w
      rw [List.length_map, List.length_zip] at w
      refine ⟨xs, ys, (e1.trans e2).seq s1, (e1.trans e2).seq s2, ?_⟩
      rw [j1.len, j2.len]
      omega⟩
theorem w_for {B : Bs} {Ω : Om} {E : E3} {rest body : List Stmt} {iter : Expr} (hp : PassesOwn (model X.prog X.w) X.A X.env X.xe) (hc : X.calm = true) (hi : I3 X Γ tg iter ds) (J : Nat → Ga → Om → Prop) (h0 : J 0 Γ Ω)
    (step : ∀ i d Γ Ω, ds[i]? = some d → J i Γ Ω → ∃ Γ1, G3 X tg Γ d Γ1 ∧ W3 X B body Γ1 Ω { E with nx := J (i + 1), ct := J (i + 1), bk := fun Γ' Ω' => W3 X B rest Γ' Ω' E })
    (hd : ∀ Γ Ω, J ds.length Γ Ω → W3 X B rest Γ Ω E) (hs : ∀ x, foldedSetIterable iter X.env x = pure x := by intro _; rfl) : W3 X B (.For tg iter body [] pos :: rest) Γ Ω E := fun F σ H S pins s I => by
  have hgw : PG X tg (fun v σ H Q => ∀ (pins : List (Addr × Obj)) (s : Shared) (u : Value), Inv X pins σ H s → RelV v u → wpAny (model X.prog X.w) X.A (assign tg X.env u) (fun _ s' => ∃ σ' H', Inv X pins σ' H' s' ∧ Q σ' H') X.xe s) := fun pins s σ H v u Q I r h => h pins s u I r
  refine pss_cons (ps_for hp hc hi hgw pss_w hs) pss_w pins s σ H _ I ⟨F, S.fh, S.sl, fun Jt H1 F1 p w => ⟨fun i m σ H => i + m = ds.length ∧ nX X.K B F1 (J i) σ H, ⟨ds.length, by omega, Γ, Ω, F1, S.pur p, Same.refl _, h0⟩, ?_⟩⟩
  rintro i m σ H ⟨hm, Γ, Ω, F2, S, f1, j⟩
  obtain ⟨w1, w2⟩ := w i F2 H f1 S.fh
  cases z : ds[i]? with
  | none =>
    have hl : ds.length ≤ i := List.getElem?_eq_none_iff.mp z
    have e : i = ds.length := by omega
    subst e
    exact .inl ⟨w2 hl, to_mono (p.ff.trans f1) (hd Γ Ω j F2 σ H S)⟩
  | some d =>
    have hl : i < ds.length := (List.getElem?_eq_some_iff.mp z).1
    obtain ⟨go, y⟩ := w1 d z
    obtain ⟨Γ1, ⟨g, pg, gq⟩, wb⟩ := step i d Γ Ω z j
    refine .inr ⟨go, nX X.K B F1 (J (i + 1)), ?_, fun x H' hy pins s u I2 r => ?_⟩
    · rintro σ' H' n
      exact ⟨m - 1, by omega, by omega, n⟩
    · obtain ⟨F3, p2, ix⟩ := y x H' hy
      refine pg pins s σ H' x u _ I2 r (gq F3 σ H' x _ p2.fh ix (S.sl.mono p2.ff) I2.len fun σ' sl' _ => ?_)
      have f3 : Same F1 F3 := f1.trans p2.ff
      exact ends_mono (D := E3.to X.K B F3 { E with nx := J (i + 1), ct := J (i + 1), bk := fun Γ' Ω' => W3 X B rest Γ' Ω' E }) (D' := { nx := nX X.K B F1 (J (i + 1)), rt := (E.to X.K B F).rt, bk := WS X rest (E.to X.K B F), ct := nX X.K B F1 (J (i + 1)) })
        (fun _ _ q => q.mono f3) (fun v H ⟨d, Ω, F, S, f, i, r⟩ => ⟨d, Ω, F, S, (p.ff.trans f3).trans f, i, r⟩) (fun _ _ q => nx_rest (q.mono (p.ff.trans f3))) (fun _ _ q => q.mono f3) (wb F3 σ' H' ((S.pur p2).slots sl'))
end
end L3
set_option Elab.async false
set_option linter.all false
set_option maxRecDepth 100000
set_option maxHeartbeats 4000000
namespace L3
open PySem PySem.Spec PySem.Calls PyProof.Rows L2
def capG (nt : Nat) (caps : List Nat) (Γ : Ga) : Ga := List.replicate nt none ++ caps.map fun i => Γ.getD i none
def Sub (Γ Γ1 : Ga) : Prop := ∀ (i : Nat) (e : D), Γ[i]? = some (some e) → Γ1[i]? = some (some e)
theorem Sub.set {Γ : Ga} {i : Nat} {d : Option D} (h : Γ[i]? = some none) : Sub Γ (Γ.set i d) := fun j e q => by
  have : i ≠ j := fun z => by subst z; rw [h] at q; cases q
  rw [List.getElem?_set_ne this]
  exact q
theorem Sub.trans {Γ Γ1 Γ2 : Ga} (a : Sub Γ Γ1) (b : Sub Γ1 Γ2) : Sub Γ Γ2 := fun i e q => b i e (a i e q)
theorem Sl.sub {K : PySem.W.Frag} {F : Hp} {Γ Γ1 : Ga} {σ : L2.St} (h : Sl K F Γ1 σ) (s : Sub Γ Γ1) : Sl K F Γ σ := fun i d q => h i d (s i d q)
theorem Sl.cap {K : PySem.W.Frag} {F : Hp} {Γ : Ga} {σ : L2.St} {nt : Nat} {caps : List Nat} (h : Sl K F Γ σ) : Sl K F (capG nt caps Γ) (capSt nt caps σ) := fun j d q => by
  unfold capG at q
  unfold capSt
  by_cases hj : j < nt
  · rw [List.getElem?_append_left (by simpa using hj), List.getElem?_replicate] at q
    split at q <;> cases q
  · rw [List.getElem?_append_right (by simpa using hj), List.length_replicate, List.getElem?_map] at q
    rw [List.getElem?_append_right (by simpa using hj), List.length_replicate, List.getElem?_map]
    cases ec : caps[j - nt]? with
    | none => rw [ec] at q; cases q
    | some ci =>
      rw [ec] at q
      have q' : Γ.getD ci none = some d := by simpa using q
      rw [List.getD_eq_getElem?_getD] at q'
      have e : Γ[ci]? = some (some d) := by
        cases z : Γ[ci]? with
        | none => rw [z] at q'; cases q'
        | some w => rw [z] at q'; exact congrArg some q'
      obtain ⟨v, h1, h2⟩ := h ci d e
      refine ⟨v, ?_, h2⟩
      simp [List.getD_eq_getElem?_getD, h1]
def PTs3 (X : Cx) (Γ : Ga) (ifs : List Expr) (k : Bool) : Prop := PTs X ifs (tPT X.K Γ k)
theorem ts_nil {X : Cx} {Γ : Ga} : PTs3 X Γ [] true := fun pins s σ H Q I ⟨F, fh, sl, q⟩ => pts_nil (c := ⟨0, s, H, []⟩) pins s σ H Q I (q H F (Pur.refl fh))
theorem ts_one {X : Cx} {Γ : Ga} {c : Expr} {k : Bool} (h : PT3 X Γ c k) : PTs3 X Γ [c] k := pts_one h
def gW (X : Cx) (tg : Expr) : TG := fun v σ H Q => ∀ (pins : List (Addr × Obj)) (s : Shared) (u : Value), Inv X pins σ H s → RelV v u → wpAny (model X.prog X.w) X.A (assign tg X.env u) (fun _ s' => ∃ σ' H', Inv X pins σ' H' s' ∧ Q σ' H') X.xe s
def WTs (X : Cx) (ifs : List Expr) : TT := fun σ H Q => ∀ (pins : List (Addr × Obj)) (s : Shared), Inv X pins σ H s →
  wpAny (model X.prog X.w) X.A (forIn ifs true fun c r => if r = true then do let ok ← isTrue c X.env (eval c X.env); pure (ForInStep.yield ok) else pure (ForInStep.yield r)) (TP X pins σ Q) X.xe s
theorem pg_w {X : Cx} {tg : Expr} : PG X tg (gW X tg) := fun pins s σ H v u Q I r h => h pins s u I r
theorem pts_w {X : Cx} {ifs : List Expr} : PTs X ifs (WTs X ifs) := fun pins s σ H Q I h => h pins s I
def CStep (X : Cx) (sc : Scope) (N : List Str) (tg elt : Expr) (ifs : List Expr) (G : Ga) (ds : List D) (pre : Nat → List D) : Prop := ∀ (c : CArg) (i : Nat) (d : D), ds[i]? = some d → ∃ Γ1, G3 (X.comp sc N c) tg G d Γ1 ∧ Sub G Γ1 ∧
  ((∃ e, PTs3 (X.comp sc N c) Γ1 ifs true ∧ P3 (X.comp sc N c) Γ1 elt e ∧ pre (i + 1) = pre i ++ [e]) ∨ (PTs3 (X.comp sc N c) Γ1 ifs false ∧ pre (i + 1) = pre i))
section
variable {X : Cx} {Γ : Ga} {tg iter elt : Expr} {ifs : List Expr} {sc SX : Scope} {N XN : List Str} {nt : Nat} {caps : List Nat} {pos : Pos} {ds : List D} {pre : Nat → List D}
theorem comp_read (hz : ∀ i, i ≤ ds.length → (pre i).length < sizeLine) (h0 : pre 0 = []) (step : CStep X sc N tg elt ifs (capG nt caps Γ) ds pre) {σ : L2.St} {H : Hp} {Q : VK}
    (h : ∃ F, Same F H ∧ Sl X.K F Γ σ ∧ ∀ p xs H' F', Pur F H F' H' → H p = none → F' p = none → H' p = some (.lst xs) → IsL X.K F' (pre ds.length) xs → Q (.ref p) H') :
    tComp nt caps (fun σ H R => ∃ F, Same F H ∧ Sl X.K F Γ σ ∧ ∀ J H' F', Pur F H F' H' → Walk3 X.K F' J ds → R J H') (fun c => gW (X.comp sc N c) tg) (fun c => WTs (X.comp sc N c) ifs) (fun c => WE (X.comp sc N c) elt) σ H Q := by
  obtain ⟨F, fh, sl, q⟩ := h
  refine ⟨F, fh, sl, fun J H1 F1 p1 wk D hD c => ⟨fun i m σ' ys H' => i + m = ds.length ∧ ∃ F', Pur F1 H1 F' H' ∧ F' D = none ∧ H' D = some (.lst ys) ∧ IsL X.K F' (pre i) ys ∧ Sl X.K F' (capG nt caps Γ) σ', ?_, ?_⟩⟩
  · exact ⟨ds.length, by omega, F1, Pur.layOwn p1.fh hD, p1.fh.free hD, upd_same, by rw [h0]; exact IsL.nil, Sl.cap (sl.mono p1.ff)⟩
  · rintro i m σ' ys H' ⟨hm, F', pu, fD, hH, il, sl'⟩
    refine ⟨hH, by rw [il.len]; exact hz i (by omega), ?_⟩
    obtain ⟨w1, w2⟩ := wk i F' H' pu.ff pu.fh
    cases z : ds[i]? with
    | none =>
      have hl : ds.length ≤ i := List.getElem?_eq_none_iff.mp z
      have e : i = ds.length := by omega
      subst e
      exact .inl ⟨w2 hl, q D ys H' F' (p1.trans pu) (p1.hh.free hD) fD hH il⟩
    | some d =>
      have hl : i < ds.length := (List.getElem?_eq_some_iff.mp z).1
      obtain ⟨go, y⟩ := w1 d z
      obtain ⟨Γ1, ⟨g, pg, gq⟩, sub, alt⟩ := step c i d z
      refine .inr ⟨go, fun x H2 hy pins s u I2 r => ?_⟩
      obtain ⟨F2, p2, ix⟩ := y x H2 hy
      have keepD : ∀ {F3 H3 F4 H4 : Hp}, Pur F3 H3 F4 H4 → F3 D = none → (∃ o, H3 D = some o) → F4 D = none := fun {F3 H3 F4 H4} pp f3 h3 => by
        cases zz : F4 D with
        | none => rfl
        | some o =>
          rcases pp.new D (by rw [zz]; simp) with w | w
          · exact absurd f3 w
          · obtain ⟨o', h3⟩ := h3; rw [h3] at w; cases w
      have fD2 := keepD p2 fD ⟨_, hH⟩
      have hH2 := p2.hh _ _ hH
      refine pg pins s σ' H2 x u _ I2 r (gq F2 σ' H2 x _ p2.fh ix (sl'.mono p2.ff) I2.len fun σ3 sl3 _ => ?_)
      rcases alt with ⟨e, ht, he, hpre⟩ | ⟨ht, hpre⟩
      · refine fun pins s I3 => ht pins s σ3 H2 _ I3 ⟨F2, p2.fh, sl3, fun H4 F4 p4 => iteT ?_⟩
        refine fun pins s I4 => he pins s σ3 H4 _ I4 ⟨F4, p4.fh, sl3.mono p4.ff, fun v H5 F5 p5 iv => ?_⟩
        have fD5 := keepD p5 (keepD p4 fD2 ⟨_, hH2⟩) ⟨_, p4.hh _ _ hH2⟩
        have hH5 := p5.hh _ _ (p4.hh _ _ hH2)
        have P5 := ((pu.trans p2).trans p4).trans p5
        refine ⟨ys, hH5, by rw [il.len]; exact hz i (by omega), m - 1, by omega, by omega, F5, ⟨P5.ff, fun b o w => ?_, fun b o w => ?_, P5.new⟩, fD5, upd_same, ?_, (sl3.mono (p4.ff.trans p5.ff)).sub sub⟩
        · rw [upd_ne (ne_of_none w fD5)]; exact P5.fh _ _ w
        · rw [upd_ne (ne_of_none w hD)]; exact P5.hh _ _ w
        · rw [hpre]
          exact (il.mono ((p2.ff.trans p4.ff).trans p5.ff)).append (IsL.cons iv IsL.nil)
      · refine fun pins s I3 => ht pins s σ3 H2 _ I3 ⟨F2, p2.fh, sl3, fun H4 F4 p4 => iteF ?_⟩
        have P4 := (pu.trans p2).trans p4
        refine ⟨ys, m - 1, by omega, by omega, F4, P4, keepD p4 fD2 ⟨_, hH2⟩, p4.hh _ _ hH2, ?_, (sl3.mono p4.ff).sub sub⟩
        rw [hpre]
        exact il.mono (p2.ff.trans p4.ff)
theorem pf_comp (S : CompOk SX sc XN N nt caps) (hi : I3 X Γ tg iter ds) (hz : ∀ i, i ≤ ds.length → (pre i).length < sizeLine) (h0 : pre 0 = []) (step : CStep X sc N tg elt ifs (capG nt caps Γ) ds pre) (hc : X.calm = true := by rfl) (hX : X.env.scope = SX := by rfl) (hN : X.N = XN := by rfl)
    (hs : ∀ x, foldedSetIterable iter X.env x = pure x := by intro _; rfl) : PF3 X Γ (.ListComp elt [⟨tg, iter, ifs, 0⟩] sc pos) (pre ds.length) :=
  PE.of (pe_comp S hi (fun c => pg_w) (fun c => pts_w) (fun c => pe_w) hc hX hN hs) fun σ H Q h => comp_read hz h0 step h
theorem w_setC {B : Bs} {Ω : Om} {E : E3} {rest : List Stmt} {y : Str} {py : Pos} {i : Nat} {spos : Pos} (S : CompOk SX sc XN N nt caps) (hnd : X.N.Nodup) (hix : X.N[i]? = some y) (hy : Loc X.env.scope y) (hi : I3 X Γ tg iter ds) (hz : ∀ i, i ≤ ds.length → (pre i).length < sizeLine) (h0 : pre 0 = [])
    (step : CStep X sc N tg elt ifs (capG nt caps Γ) ds pre) (h : W3 X B rest (Γ.set i (some (.lst (pre ds.length)))) Ω E)
    (hsw : swapsWith (.ListComp elt [⟨tg, iter, ifs, 0⟩] sc pos) (some (.Name y py)) spos.line X.env = pure true := by rfl) (hc : X.calm = true := by rfl) (hX : X.env.scope = SX := by rfl) (hN : X.N = XN := by rfl)
    (hs : ∀ x, foldedSetIterable iter X.env x = pure x := by intro _; rfl) (hf : X.fn y = true ∨ X.env.scope.names.lookup y = some .local := by first | exact .inl rfl | exact .inr rfl) : W3 X B (.Assign [.Name y py] (.ListComp elt [⟨tg, iter, ifs, 0⟩] sc pos) spos :: rest) Γ Ω E := fun F σ H S' pins s I => by
  refine pss_cons (ps_comp S hnd hix hy hi (fun c => pg_w) (fun c => pts_w) (fun c => pe_w) hsw hc hX hN hs hf) pss_w pins s σ H _ I (comp_read (Q := fun x H1 => gName i x σ H1 (WS X rest (E.to X.K B F))) hz h0 step ⟨F, S'.fh, S'.sl, fun p xs H' F' pu hp fp e il => ?_⟩)
  have w : Same F' (upd F' p (.lst xs)) := fun b u q => by rw [upd_ne (ne_of_none q fp)]; exact q
  have wf : Same (upd F' p (.lst xs)) H' := fun b u q => by
    by_cases hb : b = p
    · subst hb; rw [upd_same] at q; cases q; exact e
    · rw [upd_ne hb] at q; exact pu.fh _ _ q
  have w2 : Pur F H (upd F' p (.lst xs)) H' := by
    refine ⟨pu.ff.trans w, wf, pu.hh, fun b q => ?_⟩
    by_cases hb : b = p
    · subst hb; exact .inr hp
    · rw [upd_ne hb] at q; exact pu.new b q
  exact to_mono w2.ff (h _ _ H' ((S'.pur w2).slots (Sl.set (S'.sl.mono w2.ff) (by rw [I.len]; exact (List.getElem?_eq_some_iff.mp hix).1) (Is.lstI (.inl upd_same) (il.mono w)))))
end
def cutD (ds : List D) (lo hi : Option Int) : List D := (ds.drop (HT.sIx ds.length 0 lo)).take (HT.sIx ds.length ds.length hi - HT.sIx ds.length 0 lo)
theorem cut_is {K : PySem.W.Frag} {F : Hp} {ds : List D} {xs : List V} {lo hi : Option Int} (h : IsL K F ds xs) : IsL K F (cutD ds lo hi) (cutV xs lo hi) := by
  unfold cutD cutV
  rw [h.len]
  exact (h.drop _).take _
def PO3 (X : Cx) (Γ : Ga) (e : Option Expr) (i : Option Int) : Prop := PO X e fun σ H Q => ∃ F, Same F H ∧ Sl X.K F Γ σ ∧ ∀ H' F', Pur F H F' H' → Q i H'
section
variable {X : Cx} {Γ : Ga} {a e : Expr} {lo hi : Option Expr} {i j : Option Int} {d : D} {ds : List D} {pos p2 : Pos}
theorem PO.of {e : Option Expr} {t u : TO} (h : PO X e t) (i : ∀ σ H Q, u σ H Q → t σ H Q) : PO X e u := fun pins s σ H Q I hq => h pins s σ H Q I (i _ _ _ hq)
theorem o_none : PO3 X Γ none none := PO.of po_none fun σ H Q ⟨F, fh, sl, q⟩ => q H F (Pur.refl fh)
theorem o_some {n : Int} (h : P3 X Γ e (.int n)) : PO3 X Γ (some e) (some n) := PO.of (po_some h) fun σ H Q ⟨F, fh, sl, q⟩ => ⟨F, fh, sl, fun v H' F' p i => ⟨n, isI i, q H' F' p⟩⟩
theorem tSl3 {K : PySem.W.Frag} {σ : L2.St} {H : Hp} {R : V → Option Int → Option Int → Hp → VK → Prop} {Q : VK} (h : ∃ F, Same F H ∧ Sl K F Γ σ ∧ ∀ x H2 F2, Pur F H F2 H2 → Is K F2 d x → R x i j H2 Q) :
    tSl R (tP K Γ d) (fun σ H Q => ∃ F, Same F H ∧ Sl K F Γ σ ∧ ∀ H' F', Pur F H F' H' → Q i H') (fun σ H Q => ∃ F, Same F H ∧ Sl K F Γ σ ∧ ∀ H' F', Pur F H F' H' → Q j H') σ H Q := by
  obtain ⟨F, fh, sl, q⟩ := h
  exact ⟨F, fh, sl, fun x H1 F1 p1 i1 => ⟨F1, p1.fh, sl.mono p1.ff, fun H2 F2 p2 => ⟨F2, p2.fh, sl.mono (p1.ff.trans p2.ff), fun H3 F3 p3 => q x H3 F3 ((p1.trans p2).trans p3) (i1.mono (p2.ff.trans p3.ff))⟩⟩⟩
theorem pf_slice (ha : P3 X Γ a (.lst ds)) (hl : PO3 X Γ lo i) (hh : PO3 X Γ hi j) : PF3 X Γ (.Subscript a (.Slice lo hi none p2) pos) (cutD ds i j) :=
  PE.of (pe_slice sl_list ha hl hh) fun σ H Q ⟨F, fh, sl, q⟩ => tSl3 ⟨F, fh, sl, fun x H2 F2 p i1 => by
    obtain ⟨l, xs, rfl, s1, j1⟩ := isLst i1
    exact ⟨l, xs, rfl, p.fh.seq s1, fun b hb => q b _ _ F2 (p.trans (Pur.layOwn p.fh hb)) (p.hh.free hb) (p.fh.free hb) upd_same (cut_is j1)⟩⟩
end
end L3
set_option Elab.async false
set_option linter.all false
set_option maxRecDepth 100000
set_option maxHeartbeats 4000000
namespace L3
open PySem PySem.Spec PySem.Calls PyProof.Rows L2
def startG (N : List Str) (ds : List D) : Ga := ds.map some ++ List.replicate (N.length - ds.length) none
theorem Sl.start {K : PySem.W.Frag} {F : Hp} {N : List Str} {ds : List D} {vs : List V} (h : IsL K F ds vs) : Sl K F (startG N ds) (L2.start N vs) := fun i d q => by
  unfold startG at q
  unfold L2.start
  have hl := h.len
  by_cases hi : i < ds.length
  · rw [List.getElem?_append_left (by simpa using hi), List.getElem?_map] at q
    rw [List.getElem?_append_left (by rw [List.length_map, hl]; exact hi), List.getElem?_map]
    cases e : ds[i]? with
    | none => rw [e] at q; cases q
    | some d' =>
      rw [e] at q
      cases q
      obtain ⟨v, h1, h2⟩ := h.get e
      exact ⟨v, by rw [h1]; rfl, h2⟩
  · rw [List.getElem?_append_right (by simpa using hi), List.getElem?_replicate] at q
    split at q <;> cases q
theorem Sat.entry {K : PySem.W.Frag} {F H : Hp} {N : List Str} {ds : List D} {vs : List V} (fh : Same F H) (h : IsL K F ds vs) : Sat K ⟨[], F, H⟩ (startG N ds) [] F (L2.start N vs) H :=
  ⟨Same.refl _, fh, fun _ q => .inl q, fun _ _ _ e => e, List.nodup_nil, (fun _ q => absurd q (by simp)), (fun _ q => absurd q (by simp)), Sl.start h⟩
abbrev cx0 (P : Program) (w : World) (K : PySem.W.Frag) (mg : Str → Option Value) (base : Heap) (N : List Str) (x : Str) (st : Stmt) (f : Addr) (cdv : Value) (A : Around) (outer : List Env) (s : Shared) (H : Hp) (E : XK) : Cx := (cxOf CX0 P w K mg base N x (defScope st) f cdv A outer s H E).nox
section
variable {P : Program} {w : World} {K : PySem.W.Frag} {mg : Str → Option Value} {base : Heap} {x : Str} {st : Stmt} {N ps : List Str} {k n : Nat}
theorem ok_pure {C : List D → D → Prop} (d : DefK K mg x st ps) (S : FnScope N ps (defScope st)) (hn : ps.length = n)
    (body : ∀ (f : Addr) (cdv : Value) (A : Around) (outer : List Env) (s : Shared) (H : Hp) (E : XK), Room k (A.deeper (envOfC x (defScope st) s.heap.objs.size f cdv)) → ∀ (ds : List D) (r : D), C ds r → ∀ B : Bs, B.M = [] →
      W3 (cx0 P w K mg base N x st f cdv A outer s H E) B (defBody st) (startG N ds) [] ⟨fun _ _ => r = .non, fun r' _ => r' = r, fun _ _ => False, fun _ _ => False⟩) : OkF P w K mg base CX0 (k + 1) x ps (spP K n C) := by
  refine d.ok S (fun vs H Q E h => h.len.trans hn.symm) fun f cdv A outer s H vs Q E hr h => ⟨_, pss_w, ?_⟩
  obtain ⟨ds, r, F, hC, hl, fh, il, q⟩ := h
  refine ends_mono (D := E3.to K ⟨[], F, H⟩ F ⟨fun _ _ => r = .non, fun r' _ => r' = r, fun _ _ => False, fun _ _ => False⟩) (D' := { nx := fun _ H' => Q .non H', rt := Q }) ?_ ?_ ?_ ?_ (body f cdv A outer s H E hr ds r hC ⟨[], F, H⟩ rfl F (L2.start N vs) H (Sat.entry fh il))
  · rintro σ' H' ⟨Γ', Ω', F', S', f', e⟩
    subst e
    exact q _ _ _ (S'.toPur rfl) (i_non F')
  · rintro v H' ⟨d', Ω', F', ⟨σ', S'⟩, f', i', e⟩
    subst e
    exact q _ _ _ (S'.toPur rfl) i'
  · rintro σ' H' ⟨_, _, _, _, _, z⟩
    exact z.elim
  · rintro σ' H' ⟨_, _, _, _, _, z⟩
    exact z.elim
end
section
variable {X : Cx} {B : Bs} {Γ : Ga} {Ω : Om} {E : E3} {rest : List Stmt} {e : Expr} {es : List Expr} {ds : List D} {pos np cpos p : Pos} {Ex : XK} {C : Addr} {x : Str}
end
section
variable {X : Cx} {B : Bs} {Γ : Ga} {Ω : Om} {E : E3} {rest : List Stmt} {e : Expr} {ds : List D} {pos pos' : Pos} {x : Str}
theorem w_own {i : Nat} (hN : X.N.Nodup) (hi : X.N[i]? = some x) (hx : Loc X.env.scope x) (he : PF3 X Γ e ds) (h : ∀ a, W3 X B rest (Γ.set i (some (.raw (.ref a)))) ((a, oLst X.K ds) :: Ω) E) (hs : swapsWith e (some (.Name x pos')) pos.line X.env = pure false := by rfl)
    (hf : X.fn x = true ∨ X.env.scope.names.lookup x = some .local := by first | exact .inl rfl | exact .inr rfl | assumption) : W3 X B (.Assign [.Name x pos'] e pos :: rest) Γ Ω E := fun F σ H S pins s I =>
  pss_cons (ps_set hN hi hx he hs hf) pss_w pins s σ H _ I ⟨F, S.fh, S.sl, fun a xs H' F' pu ha fa hH il => by
    have S1 := S.pur pu
    have nin : a ∉ Ω.map (·.1) := fun z => by
      obtain ⟨q, hq, e⟩ := List.mem_map.mp z
      obtain ⟨_, o, h2, _⟩ := S.own q hq
      rw [e, ha] at h2
      cases h2
    refine to_mono pu.ff (h a F' _ H' ⟨S1.f0, S1.fh, S1.fr, S1.kp, List.nodup_cons.mpr ⟨nin, S1.nd⟩, fun q hq => ?_, fun q hq => ?_, Sl.set (S.sl.mono pu.ff) (by rw [I.len]; exact (List.getElem?_eq_some_iff.mp hi).1) (i_raw F')⟩)
    · rcases List.mem_cons.mp hq with z | z
      · subst z
        exact (S.freeB ha).symm
      · exact S1.od q z
    · rcases List.mem_cons.mp hq with z | z
      · subst z
        exact ⟨fa, _, hH, fun F2 e => ⟨xs, rfl, il.mono e⟩⟩
      · exact S1.own q z⟩
theorem Sat.perm {K : PySem.W.Frag} {Ω' : Om} {F : Hp} {σ : L2.St} {H : Hp} (S : Sat K B Γ Ω F σ H) (p : Ω'.Perm Ω) : Sat K B Γ Ω' F σ H :=
  ⟨S.f0, S.fh, S.fr, S.kp, (p.map _).nodup_iff.mpr S.nd, fun q hq => S.od q (p.mem_iff.mp hq), fun q hq => S.own q (p.mem_iff.mp hq), S.sl⟩
theorem w_perm {Ω' : Om} {sts : List Stmt} (p : Ω'.Perm Ω) (h : W3 X B sts Γ Ω' E) : W3 X B sts Γ Ω E := fun F σ H S => h F σ H (S.perm p)
theorem Sat.turn {K : PySem.W.Frag} {F : Hp} {σ : L2.St} {H : Hp} {a : Addr} {w w' : Ow} {o : HO} (S : Sat K B Γ ((a, w) :: Ω) F σ H) (h : ∀ F', Same F F' → w' F' o) : Sat K B Γ ((a, w') :: Ω) F σ (upd H a o) := by
  obtain ⟨fa, o0, ha, _⟩ := S.own (a, w) (by simp)
  have nin := (List.nodup_cons.mp S.nd).1
  refine ⟨S.f0, fun b u e => ?_, S.fr, fun b u hb e => ?_, S.nd, fun q hq => ?_, fun q hq => ?_, S.sl⟩
  · rw [upd_ne (ne_of_none e fa)]; exact S.fh _ _ e
  · by_cases z : b = a
    · subst z
      rcases S.od (b, w) (by simp) with y | y
      · exact absurd y hb
      · have y' : B.H b = none := y
        rw [y'] at e; cases e
    · rw [upd_ne z]; exact S.kp b u hb e
  · rcases List.mem_cons.mp hq with z | z
    · subst z; exact S.od (a, w) (by simp)
    · exact S.od q (List.mem_cons_of_mem _ z)
  · rcases List.mem_cons.mp hq with z | z
    · subst z
      exact ⟨fa, o, upd_same, h⟩
    · obtain ⟨h1, o', h2, h3⟩ := S.own q (List.mem_cons_of_mem _ z)
      have ne : q.1 ≠ a := fun e => nin (List.mem_map.mpr ⟨q, z, e⟩)
      exact ⟨h1, o', by rw [upd_ne ne]; exact h2, h3⟩
theorem w_append {i : Nat} {a : Addr} {d : D} {apos np ppos : Pos} (hi : X.N[i]? = some x) (hv : Vis X.env.scope x) (hΓ : Γ[i]? = some (some (.raw (.ref a)))) (he : P3 X Γ e d) (hz : ds.length < sizeLine) (h : W3 X B rest Γ ((a, oLst X.K (ds ++ [d])) :: Ω) E)
    (hs : ∀ {t : TE}, PE X (.Call (.Attribute (.Name x np) "append" apos) [e] [] ppos) t → PS X (.Expr (.Call (.Attribute (.Name x np) "append" apos) [e] [] ppos) pos) (tDrop t) := by exact fun h => ps_expr h)
    (hd : (x == ("__debug__" : Str)) = false := by decide) (hcd : (x == ("__classdict__" : Str)) = false := by decide) (hst : starEach [e] X.env = (false, eval e X.env) :: starEach [] X.env := by rfl)
    (hp : ∀ {to : TE} {ta : TA}, PE X (.Name x np) to → PA X [e] ta → PE X (.Call (.Attribute (.Name x np) "append" apos) [e] [] ppos) (tBM X.K "list" rAppend to ta) := by exact fun a b => pe_bm PySem.F.plainAttrs_list PySem.F.slot_list_append PySem.F.type_list_append mt_append a b) :
    W3 X B (.Expr (.Call (.Attribute (.Name x np) "append" apos) [e] [] ppos) pos :: rest) Γ ((a, oLst X.K ds) :: Ω) E := fun F σ H S pins s I => by
  obtain ⟨v, e1, e2⟩ := S.sl i _ hΓ
  cases isR e2
  obtain ⟨fa, o0, ha, ho⟩ := S.own (a, oLst X.K ds) (by simp)
  obtain ⟨xs, rfl, il⟩ := ho F (Same.refl _)
  refine pss_cons (hs (hp (pe_var hi hv hd hcd) (pl_cons he pl_nil hst))) pss_w pins s σ H _ I ⟨_, e1, .inl ⟨rfl, _, SqL.of ha⟩, F, S.fh, S.sl, fun vs H' F' pu iv => ?_⟩
  obtain ⟨y, rfl, iy⟩ := isL1 iv
  have S1 := S.pur pu
  refine ⟨a, xs, y, rfl, rfl, pu.hh _ _ ha, by rw [il.len]; exact hz, to_mono pu.ff (h F' σ _ (S1.turn fun F2 e2 => ⟨_, rfl, (il.mono (pu.ff.trans e2)).append (IsL.cons (iy.mono e2) IsL.nil)⟩))⟩
theorem w_freeze {sts : List Stmt} {i : Nat} {a : Addr} (hΓ : Γ[i]? = some (some (.raw (.ref a)))) (h : W3 X B sts (Γ.set i (some (.lst ds))) Ω E) : W3 X B sts Γ ((a, oLst X.K ds) :: Ω) E := fun F σ H S => by
  obtain ⟨v, e1, e2⟩ := S.sl i _ hΓ
  cases isR e2
  obtain ⟨fa, o0, ha, ho⟩ := S.own (a, oLst X.K ds) (by simp)
  obtain ⟨xs, rfl, il⟩ := ho F (Same.refl _)
  have nin := (List.nodup_cons.mp S.nd).1
  have w : Same F (upd F a (.lst xs)) := fun b u q => by rw [upd_ne (ne_of_none q fa)]; exact q
  refine to_mono w (h (upd F a (.lst xs)) σ H ⟨S.f0.trans w, fun b u q => ?_, fun b q => ?_, S.kp, (List.nodup_cons.mp S.nd).2, fun q hq => S.od q (List.mem_cons_of_mem _ hq), fun q hq => ?_, fun j d q => ?_⟩)
  · by_cases hb : b = a
    · subst hb; rw [upd_same] at q; cases q; exact ha
    · rw [upd_ne hb] at q; exact S.fh _ _ q
  · by_cases hb : b = a
    · subst hb
      exact (S.od (b, oLst X.K ds) (by simp)).elim (fun z => .inr (.inr z)) fun z => .inr (.inl z)
    · rw [upd_ne hb] at q; exact S.fr b q
  · obtain ⟨h1, o', h2, h3⟩ := S.own q (List.mem_cons_of_mem _ hq)
    have ne : q.1 ≠ a := fun e => nin (List.mem_map.mpr ⟨q, hq, e⟩)
    exact ⟨by rw [upd_ne ne]; exact h1, o', h2, fun F2 e => h3 F2 (w.trans e)⟩
  · by_cases hj : i = j
    · subst hj
      rw [List.getElem?_set] at q
      split at q
      · split at q
        · cases q
          exact ⟨_, e1, Is.lstI (.inl upd_same) (il.mono w)⟩
        · cases q
      · contradiction
    · rw [List.getElem?_set_ne hj] at q
      obtain ⟨u, h1, h2⟩ := S.sl j d q
      exact ⟨u, h1, h2.mono w⟩
end
end L3
set_option Elab.async false
set_option linter.all false
set_option maxRecDepth 100000
set_option maxHeartbeats 4000000
namespace L3
open PySem PySem.Spec PySem.Calls PyProof.Rows L2
def V3 (X : Cx) (B : Bs) (e : Expr) (Γ : Ga) (Ω : Om) (R : D → Om → Prop) : Prop := ∀ F σ H, Sat X.K B Γ Ω F σ H → WE X e σ H fun v H' => ∃ d Ω' F', Sat X.K B Γ Ω' F' σ H' ∧ Same F F' ∧ Is X.K F' d v ∧ R d Ω'
def VT3 (X : Cx) (B : Bs) (e : Expr) (Γ : Ga) (Ω : Om) (R : Bool → Om → Prop) : Prop := ∀ F σ H, Sat X.K B Γ Ω F σ H → WT X e σ H fun k H' => ∃ Ω' F', Sat X.K B Γ Ω' F' σ H' ∧ Same F F' ∧ R k Ω'
def WL (X : Cx) (es : List Expr) : TA := fun σ H Q => ∀ (pos : Pos) (pins : List (Addr × Obj)) (s : Shared), Inv X pins σ H s → wpAny (model X.prog X.w) X.A (spliced (backTo pos (starEach es X.env))) (AP X pins σ Q) X.xe s
theorem pa_w {X : Cx} {es : List Expr} : PA X es (WL X es) := fun pos pins s σ H Q I h => h pos pins s I
def VL3 (X : Cx) (B : Bs) (es : List Expr) (Γ : Ga) (Ω : Om) (R : List D → Om → Prop) : Prop := ∀ F σ H, Sat X.K B Γ Ω F σ H → WL X es σ H fun vs H' => ∃ ds Ω' F', Sat X.K B Γ Ω' F' σ H' ∧ Same F F' ∧ IsL X.K F' ds vs ∧ R ds Ω'
theorem WE.mono {X : Cx} {e : Expr} {σ : L2.St} {H : Hp} {Q Q' : VK} (h : WE X e σ H Q) (i : ∀ v H, Q v H → Q' v H) : WE X e σ H Q' := fun pins s I => thn (h pins s I) fun u s' ⟨v, H', I', r, q⟩ => ⟨v, H', I', r, i _ _ q⟩
theorem WT.mono {X : Cx} {e : Expr} {σ : L2.St} {H : Hp} {Q Q' : Bool → Hp → Prop} (h : WT X e σ H Q) (i : ∀ v H, Q v H → Q' v H) : WT X e σ H Q' := fun pins s I => thn (h pins s I) fun u s' ⟨H', I', q⟩ => ⟨H', I', i _ _ q⟩
theorem WL.mono {X : Cx} {e : List Expr} {σ : L2.St} {H : Hp} {Q Q' : List V → Hp → Prop} (h : WL X e σ H Q) (i : ∀ v H, Q v H → Q' v H) : WL X e σ H Q' := fun p pins s I => thn (h p pins s I) fun u s' ⟨v, H', I', r, q⟩ => ⟨v, H', I', r, i _ _ q⟩
section
variable {X : Cx} {B : Bs} {Γ : Ga} {Ω : Om} {E : E3} {rest body : List Stmt} {a b c e : Expr} {es : List Expr} {d : D} {ds : List D} {pos pos' p : Pos} {R : D → Om → Prop} {RL : List D → Om → Prop} {RT : Bool → Om → Prop} {k : Bool}
theorem v_pure (h : P3 X Γ e d) (r : R d Ω) : V3 X B e Γ Ω R := fun F σ H S => h.we ⟨F, S.fh, S.sl, fun v H' F' p i => ⟨d, Ω, F', S.pur p, p.ff, i, r⟩⟩
theorem vl_pure (h : PL3 X Γ es ds) (r : RL ds Ω) : VL3 X B es Γ Ω RL := fun F σ H S pos pins s I => h pos pins s σ H _ I ⟨F, S.fh, S.sl, fun v H' F' p i => ⟨ds, Ω, F', S.pur p, p.ff, i, r⟩⟩
theorem vl_cons (h : V3 X B e Γ Ω fun d Ω1 => VL3 X B es Γ Ω1 fun ds Ω2 => RL (d :: ds) Ω2) (hs : starEach (e :: es) X.env = (false, eval e X.env) :: starEach es X.env := by rfl) : VL3 X B (e :: es) Γ Ω RL := fun F σ H S pos pins s I =>
  pa_cons pe_w pa_w hs pos pins s σ H _ I ((h F σ H S).mono fun x H1 ⟨d, Ω1, F1, S1, f1, i1, h1⟩ => (h1 F1 σ H1 S1).mono fun xs H2 ⟨ds, Ω2, F2, S2, f2, i2, r⟩ => ⟨d :: ds, Ω2, F2, S2, f1.trans f2, IsL.cons (i1.mono f2) i2, r⟩)
theorem v_call {n k : Nat} {C : List D → D → Prop} {x : Str} {ps : List Str} (o : OkF X.prog X.w X.K X.mg X.base CX0 k x ps (spP X.K n C)) (hr : Room k X.A) (hg : Gl X x) (h : VL3 X B (e :: es) Γ Ω fun ds Ω1 => ∃ d, C ds d ∧ ds.length = n ∧ R d Ω1) (hdb : (x == ("__debug__" : Str)) = false := by decide)
    (he : starEach (e :: es) X.env = (false, eval e X.env) :: starEach es X.env := by rfl) (hpl : (backTo pos (starEach es X.env)).any (·.1) = false := by rfl) : V3 X B (.Call (.Name x p) (e :: es) [] pos) Γ Ω R := fun F σ H S pins s I =>
  pe_fn o hr hg pa_w hdb he hpl pins s σ H _ I ((h F σ H S).mono fun vs H1 ⟨ds, Ω1, F1, S1, f1, i1, d, hC, hn, r⟩ => by
    rw [List.append_nil]
    exact ⟨ds, d, F1, hC, hn, S1.fh, i1, fun v H2 F2 p2 i2 => ⟨d, Ω1, F2, S1.pur p2, f1.trans p2.ff, i2, r⟩⟩)
theorem w_setV {i : Nat} {x : Str} (hN : X.N.Nodup) (hi : X.N[i]? = some x) (hx : Loc X.env.scope x) (h : V3 X B e Γ Ω fun d Ω1 => W3 X B rest (Γ.set i (some d)) Ω1 E) (hs : swapsWith e (some (.Name x pos')) pos.line X.env = pure false := by rfl)
    (hf : X.fn x = true ∨ X.env.scope.names.lookup x = some .local := by first | exact .inl rfl | exact .inr rfl | assumption) : W3 X B (.Assign [.Name x pos'] e pos :: rest) Γ Ω E := fun F σ H S pins s I =>
  pss_cons (ps_set hN hi hx pe_w hs hf) pss_w pins s σ H _ I ((h F σ H S).mono fun v H1 ⟨d, Ω1, F1, S1, f1, i1, h1⟩ => to_mono f1 (h1 F1 _ H1 (S1.slots (Sl.set S1.sl (by rw [I.len]; exact (List.getElem?_eq_some_iff.mp hi).1) i1))))
theorem w_retV (h : V3 X B e Γ Ω E.rt) : W3 X B (.Return (some e) pos :: rest) Γ Ω E := fun F σ H S pins s I =>
  pss_cons (ps_ret pe_w) pss_never pins s σ H _ I ((h F σ H S).mono fun v H1 ⟨d, Ω1, F1, S1, f1, i1, h1⟩ => ⟨d, Ω1, F1, ⟨σ, S1.slots Sl.nil⟩, f1, i1, h1⟩)
theorem w_ifV {a b : List Stmt} (h : VT3 X B c Γ Ω fun k Ω1 => (k = true → W3 X B a Γ Ω1 (E.then X B rest)) ∧ (k = false → W3 X B b Γ Ω1 (E.then X B rest))) : W3 X B (.If c a b pos :: rest) Γ Ω E := fun F σ H S pins s I =>
  pss_cons (ps_if pt_w pss_w pss_w) pss_w pins s σ H _ I ((h F σ H S).mono fun k H1 ⟨Ω1, F1, S1, f1, h1, h2⟩ => by
    cases k with
    | true => exact iteT (seq_rest (to_mono f1 (h1 rfl F1 σ H1 S1)))
    | false => exact iteF (seq_rest (to_mono f1 (h2 rfl F1 σ H1 S1))))
end
end L3
set_option Elab.async false
set_option linter.all false
set_option maxRecDepth 100000
set_option maxHeartbeats 4000000
namespace L3
open PySem PySem.Spec PySem.Calls PyProof.Rows L2
theorem Sat.new {K : PySem.W.Frag} {B : Bs} {Γ : Ga} {Ω : Om} {F F' : Hp} {σ : L2.St} {H H' : Hp} {a : Addr} {w : Ow} {o : HO} (S : Sat K B Γ Ω F σ H) (pu : Pur F H F' H') (ha : H a = none) (fa : F' a = none) (hH : H' a = some o) (h : ∀ F2, Same F' F2 → w F2 o) : Sat K B Γ ((a, w) :: Ω) F' σ H' := by
  have S1 := S.pur pu
  have nin : a ∉ Ω.map (·.1) := fun z => by
    obtain ⟨q, hq, e⟩ := List.mem_map.mp z
    obtain ⟨_, o, h2, _⟩ := S.own q hq
    rw [e, ha] at h2
    cases h2
  refine ⟨S1.f0, S1.fh, S1.fr, S1.kp, List.nodup_cons.mpr ⟨nin, S1.nd⟩, fun q hq => ?_, fun q hq => ?_, S1.sl⟩
  · rcases List.mem_cons.mp hq with z | z
    · subst z
      exact (S.freeB ha).symm
    · exact S1.od q z
  · rcases List.mem_cons.mp hq with z | z
    · subst z
      exact ⟨fa, _, hH, h⟩
    · exact S1.own q z
def WI (X : Cx) (tg iter : Expr) : TI := fun σ H R => ∀ (pins : List (Addr × Obj)) (s : Shared), Inv X pins σ H s → wpAny (model X.prog X.w) X.A (eval iter X.env) (fun v s1 => wpAny (model X.prog X.w) X.A (pyIter v) (PIE X pins σ tg R) X.xe s1) X.xe s
theorem pi_w {X : Cx} {tg iter : Expr} : PI X tg iter (WI X tg iter) := fun pins s σ H R I h => h pins s I
theorem WI.mono {X : Cx} {tg iter : Expr} {σ : L2.St} {H : Hp} {R R' : It → Hp → Prop} (h : WI X tg iter σ H R) (i : ∀ J H, R J H → R' J H) : WI X tg iter σ H R' := fun pins s I => thn (h pins s I) fun v s1 h1 => thn h1 fun itv s2 ⟨it, fp, tn, J, H', e, I', T, t0, f, r⟩ => ⟨it, fp, tn, J, H', e, I', T, t0, f, i _ _ r⟩
def IV3 (X : Cx) (B : Bs) (tg iter : Expr) (Γ : Ga) (Ω : Om) (R : List D → Om → Prop) : Prop := ∀ F σ H, Sat X.K B Γ Ω F σ H → WI X tg iter σ H fun J H' => ∃ ds Ω' F', Sat X.K B Γ Ω' F' σ H' ∧ Same F F' ∧ Walk3 X.K F' J ds ∧ R ds Ω'
section
variable {X : Cx} {B : Bs} {Γ : Ga} {Ω : Om} {E : E3} {rest body : List Stmt} {tg iter a b e : Expr} {es : List Expr} {d : D} {ds : List D} {pos pos' p : Pos} {R : D → Om → Prop} {RL : List D → Om → Prop}
theorem w_forV (hp : PassesOwn (model X.prog X.w) X.A X.env X.xe) (hc : X.calm = true)
    (h : IV3 X B tg iter Γ Ω fun ds Ω1 => ∃ J : Nat → Ga → Om → Prop, J 0 Γ Ω1 ∧ (∀ i d Γ Ω, ds[i]? = some d → J i Γ Ω → ∃ Γ1, G3 X tg Γ d Γ1 ∧ W3 X B body Γ1 Ω { E with nx := J (i + 1), ct := J (i + 1), bk := fun Γ' Ω' => W3 X B rest Γ' Ω' E }) ∧ ∀ Γ Ω, J ds.length Γ Ω → W3 X B rest Γ Ω E)
    (hs : ∀ x, foldedSetIterable iter X.env x = pure x := by intro _; rfl) : W3 X B (.For tg iter body [] pos :: rest) Γ Ω E := fun F σ H S pins s I => by
  refine pss_cons (ps_for hp hc pi_w pg_w pss_w hs) pss_w pins s σ H _ I ((h F σ H S).mono fun Jt H1 ⟨ds, Ω1, F1, S1, p1, w, J, h0, step, hd⟩ => ⟨fun i m σ H => i + m = ds.length ∧ nX X.K B F1 (J i) σ H, ⟨ds.length, by omega, Γ, Ω1, F1, S1, Same.refl _, h0⟩, ?_⟩)
  rintro i m σ H ⟨hm, Γ, Ω, F2, S, f1, j⟩
  obtain ⟨w1, w2⟩ := w i F2 H f1 S.fh
  cases z : ds[i]? with
  | none =>
    have hl : ds.length ≤ i := List.getElem?_eq_none_iff.mp z
    have e : i = ds.length := by omega
    subst e
    exact .inl ⟨w2 hl, to_mono (p1.trans f1) (hd Γ Ω j F2 σ H S)⟩
  | some d =>
    have hl : i < ds.length := (List.getElem?_eq_some_iff.mp z).1
    obtain ⟨go, y⟩ := w1 d z
    obtain ⟨Γ1, ⟨g, pg, gq⟩, wb⟩ := step i d Γ Ω z j
    refine .inr ⟨go, nX X.K B F1 (J (i + 1)), ?_, fun x H' hy pins s u I2 r => ?_⟩
    · rintro σ' H' n
      exact ⟨m - 1, by omega, by omega, n⟩
    · obtain ⟨F3, p2, ix⟩ := y x H' hy
      refine pg pins s σ H' x u _ I2 r (gq F3 σ H' x _ p2.fh ix (S.sl.mono p2.ff) I2.len fun σ' sl' _ => ?_)
      have f3 : Same F1 F3 := f1.trans p2.ff
      exact ends_mono (D := E3.to X.K B F3 { E with nx := J (i + 1), ct := J (i + 1), bk := fun Γ' Ω' => W3 X B rest Γ' Ω' E }) (D' := { nx := nX X.K B F1 (J (i + 1)), rt := (E.to X.K B F).rt, bk := WS X rest (E.to X.K B F), ct := nX X.K B F1 (J (i + 1)) })
        (fun _ _ q => q.mono f3) (fun v H ⟨d, Ω, F, S, f, i, r⟩ => ⟨d, Ω, F, S, (p1.trans f3).trans f, i, r⟩) (fun _ _ q => nx_rest (q.mono (p1.trans f3))) (fun _ _ q => q.mono f3) (wb F3 σ' H' ((S.pur p2).slots sl'))
theorem v_fresh (h : PF3 X Γ e ds) (r : ∀ a, R (.raw (.ref a)) ((a, oLst X.K ds) :: Ω)) : V3 X B e Γ Ω R := fun F σ H S pins s I => h pins s σ H _ I ⟨F, S.fh, S.sl, fun a xs H' F' pu ha fa hH il => ⟨_, _, F', S.new pu ha fa hH (fun F2 e => ⟨xs, rfl, il.mono e⟩), pu.ff, i_raw F', r a⟩⟩
end
end L3
set_option Elab.async false
set_option linter.all false
set_option maxRecDepth 100000
set_option maxHeartbeats 4000000
namespace L3
open PySem PySem.Spec PySem.Calls PyProof.Rows L2
def sh (q : Rat) : D := .tup [.int q.num, .int (q.den : Int)]
def Sz (n : Nat) (q : Rat) : Prop := q.num.natAbs < 2 ^ n ∧ q.den < 2 ^ n
theorem Sz.mono {m n : Nat} {q : Rat} (h : Sz m q) (l : m ≤ n) : Sz n q :=
  ⟨Nat.lt_of_lt_of_le h.1 (Nat.pow_le_pow_right (by decide) l), Nat.lt_of_lt_of_le h.2 (Nat.pow_le_pow_right (by decide) l)⟩
theorem bits_abs {x : Int} {n : Nat} (h : x.natAbs < 2 ^ n) : Builtin.Int.intBits x ≤ n := PySem.intBits_le_iff.mpr h
theorem mul_fit {a b : Int} {m n : Nat} (ha : a.natAbs < 2 ^ m) (hb : b.natAbs < 2 ^ n) (h : m + n ≤ 134217728) : IntMulOk a b := PySem.IntMulOk.of_le (bits_abs ha) (bits_abs hb) h
theorem pow_add' (m n : Nat) : 2 ^ (m + n) = 2 ^ m * 2 ^ n := Nat.pow_add 2 m n
theorem abs_mul_lt {a b : Int} {m n : Nat} (ha : a.natAbs < 2 ^ m) (hb : b.natAbs < 2 ^ n) : (a * b).natAbs < 2 ^ (m + n) := by
  rw [Int.natAbs_mul, pow_add']
  exact Nat.mul_lt_mul'' ha hb
theorem sz_divInt {t b : Int} {n : Nat} (hb : 0 < b) (h1 : t.natAbs < 2 ^ n) (h2 : b.natAbs < 2 ^ n) : Sz n (Rat.divInt t b) := by
  constructor
  · rw [Rat.num_divInt, Int.sign_eq_one_of_pos hb, Int.one_mul]
    refine Nat.lt_of_le_of_lt ?_ h1
    rw [Int.natAbs_ediv_of_dvd (Int.gcd_dvd_right _ _)]
    exact Nat.div_le_self _ _
  · rw [Rat.den_divInt, if_neg (by omega)]
    exact Nat.lt_of_le_of_lt (Nat.div_le_self _ _) h2
theorem sz_add {m n : Nat} {p q : Rat} (hp : Sz m p) (hq : Sz n q) : Sz (m + n + 1) (p + q) := by
  rw [← My.q_add]
  have a1 := abs_mul_lt hp.1 (show (q.den : Int).natAbs < 2 ^ n from hq.2)
  have a2 := abs_mul_lt hq.1 (show (p.den : Int).natAbs < 2 ^ m from hp.2)
  have a3 := abs_mul_lt (show (p.den : Int).natAbs < 2 ^ m from hp.2) (show (q.den : Int).natAbs < 2 ^ n from hq.2)
  rw [Nat.add_comm n m] at a2
  have e : 2 ^ (m + n + 1) = 2 ^ (m + n) + 2 ^ (m + n) := by rw [Nat.pow_succ]; omega
  refine sz_divInt (Int.mul_pos (My.den_pos' p) (My.den_pos' q)) ?_ ?_
  · rw [e]
    refine Nat.lt_of_le_of_lt (Int.natAbs_add_le _ _) ?_
    omega
  · rw [e]; omega
theorem sz_sub {m n : Nat} {p q : Rat} (hp : Sz m p) (hq : Sz n q) : Sz (m + n + 1) (p - q) := by
  rw [← My.q_sub]
  have a1 := abs_mul_lt hp.1 (show (q.den : Int).natAbs < 2 ^ n from hq.2)
  have a2 := abs_mul_lt hq.1 (show (p.den : Int).natAbs < 2 ^ m from hp.2)
  have a3 := abs_mul_lt (show (p.den : Int).natAbs < 2 ^ m from hp.2) (show (q.den : Int).natAbs < 2 ^ n from hq.2)
  rw [Nat.add_comm n m] at a2
  have e : 2 ^ (m + n + 1) = 2 ^ (m + n) + 2 ^ (m + n) := by rw [Nat.pow_succ]; omega
  refine sz_divInt (Int.mul_pos (My.den_pos' p) (My.den_pos' q)) ?_ ?_
  · rw [e]
    refine Nat.lt_of_le_of_lt (Int.natAbs_sub_le _ _) ?_
    omega
  · rw [e]; omega
theorem sz_mul {m n : Nat} {p q : Rat} (hp : Sz m p) (hq : Sz n q) : Sz (m + n) (p * q) := by
  rw [← My.q_mul]
  exact sz_divInt (Int.mul_pos (My.den_pos' p) (My.den_pos' q)) (abs_mul_lt hp.1 hq.1) (abs_mul_lt (show (p.den : Int).natAbs < 2 ^ m from hp.2) (show (q.den : Int).natAbs < 2 ^ n from hq.2))
theorem sz_div {m n : Nat} {p q : Rat} (hp : Sz m p) (hq : Sz n q) (h0 : 0 < q) : Sz (m + n) (p / q) := by
  rw [← My.q_div]
  exact sz_divInt (Int.mul_pos (My.den_pos' p) (My.q_num_pos h0)) (abs_mul_lt hp.1 (show (q.den : Int).natAbs < 2 ^ n from hq.2)) (abs_mul_lt (show (p.den : Int).natAbs < 2 ^ m from hp.2) hq.1)
theorem sz_0 : Sz 1 0 := by constructor <;> decide
theorem sz_1 : Sz 1 1 := by constructor <;> decide
theorem q_nn_add {p q : Rat} (a : 0 ≤ p) (b : 0 ≤ q) : 0 ≤ p + q := by grind
theorem q_nn_mul {p q : Rat} (a : 0 ≤ p) (b : 0 ≤ q) : 0 ≤ p * q := Rat.mul_nonneg a b
theorem q_nn_div {p q : Rat} (a : 0 ≤ p) (b : 0 < q) : 0 ≤ p / q := by
  rw [Rat.div_def]
  exact Rat.mul_nonneg a (Rat.le_of_lt (Rat.inv_pos.mpr b))
theorem q_lt1 {q : Rat} : q.num < (q.den : Int) ↔ q < 1 := by
  have h := Rat.lt_iff q 1
  rw [show (1 : Rat).num = 1 from rfl, show (1 : Rat).den = 1 from rfl] at h
  rw [h]
  omega
abbrev big : Nat := 67108864
def C_gcd : List D → D → Prop := fun ds d => ∃ a b : Int, ds = [.int a, .int b] ∧ d = .int (My.G a b) ∧ 0 ≤ a ∧ 0 ≤ b
def C_share : List D → D → Prop := fun ds d => ∃ t b : Int, ds = [.int t, .int b] ∧ d = sh (Rat.divInt t b) ∧ 0 ≤ t ∧ 0 < b
def C_op (f : Rat → Rat → Rat) (C : Rat → Rat → Prop) : List D → D → Prop := fun ds d => ∃ (p q : Rat) (m n : Nat), ds = [sh p, sh q] ∧ d = sh (f p q) ∧ 0 ≤ p ∧ 0 ≤ q ∧ Sz m p ∧ Sz n q ∧ m ≤ big ∧ n ≤ big ∧ C p q
abbrev C_added := C_op (fun p q => p + q) fun _ _ => True
abbrev C_timed := C_op (fun p q => p * q) fun _ _ => True
abbrev C_lessened := C_op (fun p q => p - q) fun p q => q ≤ p
abbrev C_parted := C_op (fun p q => p / q) fun _ q => 0 < q
def C_less : List D → D → Prop := fun ds d => ∃ (p q : Rat) (m n : Nat), ds = [sh p, sh q] ∧ d = .bl (decide (p < q)) ∧ Sz m p ∧ Sz n q ∧ m ≤ big ∧ n ≤ big
theorem den_abs {q : Rat} {n : Nat} (h : Sz n q) : ((q.den : Int)).natAbs < 2 ^ n := h.2
theorem fit_nd {p q : Rat} {m n : Nat} (hp : Sz m p) (hq : Sz n q) (h1 : m ≤ big) (h2 : n ≤ big) : IntMulOk p.num q.den := mul_fit hp.1 (den_abs hq) (by have : big = 67108864 := rfl; omega)
theorem fit_nn {p q : Rat} {m n : Nat} (hp : Sz m p) (hq : Sz n q) (h1 : m ≤ big) (h2 : n ≤ big) : IntMulOk p.num q.num := mul_fit hp.1 hq.1 (by have : big = 67108864 := rfl; omega)
theorem fit_dd {p q : Rat} {m n : Nat} (hp : Sz m p) (hq : Sz n q) (h1 : m ≤ big) (h2 : n ≤ big) : IntMulOk p.den q.den := mul_fit (den_abs hp) (den_abs hq) (by have : big = 67108864 := rfl; omega)
theorem sh_inj {p q : Rat} (h : sh p = sh q) : p = q := by
  unfold sh at h
  simp only [D.tup.injEq, List.cons.injEq, D.int.injEq, and_true] at h
  exact My.q_inj h.1 h.2
theorem beq_sh {p q : Rat} : beqD (sh p) (sh q) = decide (p = q) := by
  by_cases h : p = q
  · subst h
    rw [beqD_refl (by rfl)]
    simp
  · rw [beqD_ne (fun z => h (sh_inj z)), decide_eq_false h]
theorem kin_sh {p q : Rat} : kin (sh p) (sh q) = true := by rfl
theorem dep_sh {p : Rat} : dep (sh p) ≤ 60 := by
  show max 0 (max 0 0) + 1 ≤ 60
  decide
def GlobD (K : PySem.W.Frag) (mg : Str → Option Value) (x : Str) (d : D) : Prop := ∃ (v : V) (u : Value), mg x = some u ∧ RelV v u ∧ ∀ F, Is K F d v
theorem p_globD {X : Cx} {Γ : Ga} {x : Str} {d : D} {pos : Pos} (h : GlobD X.K X.mg x d) (hg : Gl X x) (hd : (x == ("__debug__" : Str)) = false := by decide) : P3 X Γ (.Name x pos) d := by
  obtain ⟨v, u, hm, r, i⟩ := h
  exact p_glob hg hm r i hd
structure Zs (mg : Str → Option Value) : Prop where
  len : mg "len" = none
  range : mg "range" = none
  list : mg "list" = none
  tuple : mg "tuple" = none
  int : mg "int" = none
  bool : mg "bool" = none
  str : mg "str" = none
  dict : mg "dict" = none
  isinstance : mg "isinstance" = none
  sum : mg "sum" = none
  enumerate : mg "enumerate" = none
  zip : mg "zip" = none
  ValueError : mg "ValueError" = none
  all : mg "all" = none
  any : mg "any" = none
  reversed : mg "reversed" = none
theorem emod_in {a b : Int} (p : 0 < b) : 0 ≤ a % b ∧ a % b < b := ⟨Int.emod_nonneg a (by omega), Int.emod_lt_of_pos a p⟩
theorem G_turnE {a b : Int} (ha : 0 ≤ a) (hb : 0 < b) : My.G b (a % b) = My.G a b := by
  rw [← Int.fmod_eq_emod_of_nonneg a (Int.le_of_lt hb)]
  exact My.G_turn ha hb
theorem dd_pos {p q : Rat} : (0 : Int) < p.den * q.den := Int.mul_pos (My.den_pos' p) (My.den_pos' q)
theorem sum_nn {p q : Rat} (hp : 0 ≤ p) (hq : 0 ≤ q) : 0 ≤ p.num * q.den + q.num * p.den :=
  Int.add_nonneg (Int.mul_nonneg (My.q_num_nn hp) (Int.le_of_lt (My.den_pos' q))) (Int.mul_nonneg (My.q_num_nn hq) (Int.le_of_lt (My.den_pos' p)))
theorem sub_nn {p q : Rat} (h : q ≤ p) : 0 ≤ p.num * q.den - q.num * p.den := by
  have := (Rat.le_iff q p).mp h
  omega
theorem p_eq {X : Cx} {Γ : Ga} {e : Expr} {d d' : D} (h : P3 X Γ e d') (q : d' = d) : P3 X Γ e d := q ▸ h
def C_cell : List D → D → Prop := fun ds d => ∃ (ns : List Int) (k : Nat), ds = [.scr ns, .int (k : Int)] ∧ d = .int (ns.getD k 0)
def C_whole : List D → D → Prop := fun ds d => ∃ i : Int, ds = [.int i] ∧ d = .bl true
def C_isShare : List D → D → Prop := fun ds d => ∃ q : Rat, ds = [sh q] ∧ d = .bl true ∧ 0 ≤ q
theorem mul_small {a b : Int} (h : b.natAbs < 2 ^ 64) : IntMulOk a b := IntMulOk.of_right (bits_abs h)
end L3
set_option Elab.async false
set_option linter.all false
set_option maxRecDepth 100000
set_option maxHeartbeats 4000000
namespace L3
open PySem PySem.Spec PySem.Calls PyProof.Rows L2
def tb {α : Type} (n : Nat) (f : Nat → α) : List α := (List.range n).map f
theorem tb_get {α : Type} {n k : Nat} {f : Nat → α} (h : k < n) : (tb n f)[k]? = some (f k) := by
  unfold tb
  rw [List.getElem?_map, List.getElem?_range h]
  rfl
theorem tb_len {α : Type} {n : Nat} {f : Nat → α} : (tb n f).length = n := by unfold tb; simp
theorem tb_congr {α : Type} {n : Nat} {f g : Nat → α} (h : ∀ j, j < n → f j = g j) : tb n f = tb n g := List.map_congr_left fun j hj => h j (List.mem_range.mp hj)
theorem tb_take {α : Type} {n k : Nat} {f : Nat → α} (h : k ≤ n) : (tb n f).take k = tb k f := by
  unfold tb
  rw [← List.map_take, List.take_range, Nat.min_eq_left h]
theorem tb_succ {α : Type} {n : Nat} {f : Nat → α} : tb (n + 1) f = tb n f ++ [f n] := by
  unfold tb
  rw [List.range_succ, List.map_append]
  rfl
theorem tb_set {α : Type} {n k : Nat} {f : Nat → α} {x : α} : (tb n f).set k x = tb n fun j => if j = k then x else f j := by
  refine List.ext_getElem? fun i => ?_
  by_cases h : i < n
  · rw [tb_get h, List.getElem?_set]
    by_cases hk : k = i
    · subst hk
      rw [if_pos rfl, if_pos rfl, if_pos (by rw [tb_len]; exact h)]
    · rw [if_neg hk, tb_get h, if_neg (fun z => hk z.symm)]
  · rw [List.getElem?_eq_none_iff.mpr (by rw [List.length_set, tb_len]; omega), List.getElem?_eq_none_iff.mpr (by rw [tb_len]; omega)]
theorem tb_mapIdx {α β : Type} {n : Nat} {f : Nat → α} {g : Nat → α → β} : (tb n f).mapIdx g = tb n fun j => g j (f j) := by
  refine List.ext_getElem? fun i => ?_
  rw [List.getElem?_mapIdx]
  by_cases h : i < n
  · rw [tb_get h, tb_get h]; rfl
  · rw [List.getElem?_eq_none_iff.mpr (by rw [tb_len]; omega), List.getElem?_eq_none_iff.mpr (by rw [tb_len]; omega)]; rfl
theorem tb_zip {α β : Type} {n : Nat} {f : Nat → α} {g : Nat → β} : (tb n f).zip (tb n g) = tb n fun j => (f j, g j) := by
  refine List.ext_getElem? fun i => ?_
  by_cases h : i < n
  · rw [tb_get h]
    exact List.getElem?_zip_eq_some.mpr ⟨tb_get h, tb_get h⟩
  · rw [List.getElem?_eq_none_iff.mpr (by rw [List.length_zip, tb_len, tb_len]; omega), List.getElem?_eq_none_iff.mpr (by rw [tb_len]; omega)]
theorem atI_tb {α : Type} {n k : Nat} {f : Nat → α} (h : k < n) : atI (tb n f) (k : Int) = some (f k) := by
  unfold atI ixN
  rw [tb_len, if_pos (by omega), if_pos (by omega)]
  show (tb n f)[((k : Int)).toNat]? = _
  rw [Int.toNat_natCast]
  exact tb_get h
def shR (m : Nat) (f : Nat → Rat) : D := .lst (tb m fun j => sh (f j))
def shM (n m : Nat) (E : Nat → Nat → Rat) : D := .lst (tb n fun i => shR m (E i))
theorem shR_congr {m : Nat} {f g : Nat → Rat} (h : ∀ j, j < m → f j = g j) : shR m f = shR m g := by
  unfold shR
  rw [tb_congr fun j hj => by rw [h j hj]]
def stpE (E : Nat → Nat → Rat) (k : Nat) : Nat → Nat → Rat := fun i j =>
  if i = k then (if j = k then 0 else E k j / (1 - E k k)) else (if j = k then 0 else E i j + E i k * (E k j / (1 - E k k)))
def EK (E : Nat → Nat → Rat) : Nat → Nat → Nat → Rat
  | 0 => E
  | k + 1 => stpE (EK E k) k
def Good (n m s : Nat) (E : Nat → Nat → Rat) : Prop := ∀ i j, i < n → j < m → 0 ≤ E i j ∧ Sz s (E i j)
theorem sub1_pos {q : Rat} (h : q < 1) : 0 < 1 - q := by grind
theorem Good.step {n m s k : Nat} {E : Nat → Nat → Rat} (h : Good n m s E) (hk : k < n) (hm : k < m) (h1 : E k k < 1) : Good n m (4 * s + 3) (stpE E k) := fun i j hi hj => by
  have a := h k k hk hm
  have b := h k j hk hj
  have c := h i j hi hj
  have e := h i k hi hm
  have p := sub1_pos h1
  have z : Sz (4 * s + 3) (0 : Rat) := sz_0.mono (by omega)
  have g0 : 0 ≤ E k j / (1 - E k k) := q_nn_div b.1 p
  have gs : Sz (s + (1 + s + 1)) (E k j / (1 - E k k)) := sz_div b.2 (sz_sub sz_1 a.2) p
  unfold stpE
  by_cases h1 : i = k
  · rw [if_pos h1]
    by_cases h2 : j = k
    · rw [if_pos h2]; exact ⟨by decide, z⟩
    · rw [if_neg h2]; exact ⟨g0, gs.mono (by omega)⟩
  · rw [if_neg h1]
    by_cases h2 : j = k
    · rw [if_pos h2]; exact ⟨by decide, z⟩
    · rw [if_neg h2]
      exact ⟨q_nn_add c.1 (q_nn_mul e.1 g0), (sz_add c.2 (sz_mul e.2 gs)).mono (by omega)⟩
def Piv (n : Nat) (E : Nat → Nat → Rat) : Prop := ∀ k, k < n → EK E k k k < 1
def sK (s : Nat) : Nat → Nat
  | 0 => s
  | k + 1 => 4 * sK s k + 3
theorem sK_mono {s j k : Nat} (h : j ≤ k) : sK s j ≤ sK s k := by
  induction k with
  | zero => rw [Nat.le_zero.mp h]; exact Nat.le_refl _
  | succ k ih =>
    rcases Nat.lt_or_ge j (k + 1) with h1 | h1
    · have := ih (by omega)
      rw [sK]; omega
    · rw [show j = k + 1 by omega]; exact Nat.le_refl _
theorem Good.at {n m s : Nat} {E : Nat → Nat → Rat} (h : Good n m s E) (hm : n ≤ m) : ∀ k, k ≤ n → (∀ j, j < k → EK E j j j < 1) → Good n m (sK s k) (EK E k)
  | 0, _, _ => h
  | k + 1, hk, hp => (Good.at h hm k (by omega) fun j hj => hp j (by omega)).step (by omega) (by omega) (hp k (by omega))
theorem EK_cols {n : Nat} {E E' : Nat → Nat → Rat} (h : ∀ i j, i < n → j < n → E i j = E' i j) : ∀ k, k ≤ n → ∀ i j, i < n → j < n → EK E k i j = EK E' k i j
  | 0, _, i, j, hi, hj => h i j hi hj
  | k + 1, hk, i, j, hi, hj => by
    have ih := EK_cols h k (by omega)
    rw [EK, EK]
    unfold stpE
    rw [ih k j (by omega) hj, ih k k (by omega) (by omega), ih i j hi hj, ih i k hi (by omega)]
def nnR (m s : Nat) (f : Nat → Rat) : Prop := ∀ j, j < m → 0 ≤ f j ∧ Sz s (f j)
def C_cleared : List D → D → Prop := fun ds d => ∃ (m k : Nat) (f : Nat → Rat), ds = [shR m f, .int k] ∧ d = shR m (fun j => if j = k then 0 else f j) ∧ k < m ∧ m ≤ 10000
def C_without : List D → D → Prop := fun ds d => ∃ (m k s : Nat) (f : Nat → Rat), ds = [shR m f, .int k] ∧ d = shR m (fun j => if j = k then 0 else f j / (1 - f k)) ∧ k < m ∧ m ≤ 10000 ∧ nnR m s f ∧ 4 * s + 3 ≤ big ∧ f k < 1
def C_put : List D → D → Prop := fun ds d => ∃ (m k s : Nat) (f g : Nat → Rat), ds = [shR m f, .int k, shR m g] ∧ d = shR m (fun j => if j = k then 0 else f j + f k * g j) ∧ k < m ∧ m ≤ 10000 ∧ nnR m s f ∧ nnR m (2 * s + 2) g ∧ 4 * s + 3 ≤ big ∧ g k = 0
end L3
namespace L3
open PySem PySem.Spec PySem.Calls PyProof.Rows L2
theorem sIx_nat' {n d k : Nat} (h : k ≤ n) : HT.sIx n d (some (k : Int)) = k := by rw [HT.sIx_nat]; omega
theorem cut_take {ds : List D} {k : Nat} (h : k ≤ ds.length) : cutD ds none (some (k : Int)) = ds.take k := by
  unfold cutD
  rw [HT.sIx_none, sIx_nat' h]
  simp
theorem cut_drop {ds : List D} {k : Nat} (h : k ≤ ds.length) : cutD ds (some (k : Int)) none = ds.drop k := by
  unfold cutD
  rw [HT.sIx_none, sIx_nat' h, List.take_of_length_le (by rw [List.length_drop]; omega)]
theorem clr_eq {α : Type} {m k : Nat} {f : Nat → α} {x : α} (h : k < m) : (tb m f).take k ++ [x] ++ (tb m f).drop (k + 1) = tb m fun j => if j = k then x else f j := by
  rw [← tb_set, List.set_eq_take_append_cons_drop, if_pos (by rw [tb_len]; exact h)]
  simp
theorem cut_tbT {m k : Nat} {f : Nat → D} (h : k ≤ m) : cutD (tb m f) none (some (k : Int)) = (tb m f).take k := cut_take (by rw [tb_len]; exact h)
theorem cut_tbD {m k : Nat} {f : Nat → D} (h : k + 1 ≤ m) : cutD (tb m f) (some ((k : Int) + 1)) none = (tb m f).drop (k + 1) := by
  rw [show ((k : Int) + 1) = ((k + 1 : Nat) : Int) by omega, cut_drop (by rw [tb_len]; exact h)]
theorem tb_ite {m k : Nat} {f : Nat → Rat} {x : Rat} : (tb m fun j => if j = k then sh x else sh (f j)) = tb m fun j => sh (if j = k then x else f j) := tb_congr fun j _ => by
  by_cases h : j = k
  · rw [if_pos h, if_pos h]
  · rw [if_neg h, if_neg h]
end L3
namespace L3
open PySem PySem.Spec PySem.Calls PyProof.Rows L2
def nums (lo n : Nat) : List D := tb n fun j => .int ((lo + j : Nat) : Int)
theorem nums_len {lo n : Nat} : (nums lo n).length = n := tb_len
theorem nums_lt {lo n i : Nat} {d : D} (h : (nums lo n)[i]? = some d) : i < n ∧ d = .int ((lo + i : Nat) : Int) := by
  have hi := (List.getElem?_eq_some_iff.mp h).1
  rw [nums_len] at hi
  unfold nums at h
  rw [tb_get hi] at h
  cases h
  exact ⟨hi, rfl⟩
theorem rngD_nums {lo n : Nat} : rngD (lo : Int) n = nums lo n := by
  unfold rngD nums
  refine tb_congr fun j _ => ?_
  congr 1
theorem i_rangeN {X : Cx} {Γ : Ga} {tg a : Expr} {p pos : Pos} {j : Int} {n : Nat} (hm : X.mg "range" = none) (hg : Gl X "range") (ha : P3 X Γ a (.int j)) (hj : j = (n : Int)) (hn : n < 2 ^ 62) (hs : starEach [a] X.env = [(false, eval a X.env)] := by rfl) : I3 X Γ tg (.Call (.Name "range" p) [a] [] pos) (nums 0 n) := by
  subst hj
  have h := i_range1 (tg := tg) (p := p) (pos := pos) hm hg ha (by omega) (by omega) hs
  rw [Int.toNat_natCast, show (0 : Int) = ((0 : Nat) : Int) from rfl, rngD_nums] at h
  exact h
theorem i_rangeM {X : Cx} {Γ : Ga} {tg a b : Expr} {p pos : Pos} {i j : Int} {lo n : Nat} (hm : X.mg "range" = none) (hg : Gl X "range") (ha : P3 X Γ a (.int i)) (hb : P3 X Γ b (.int j)) (hi : i = (lo : Int)) (hj : (j - i).toNat = n) (hn : lo < 2 ^ 61 ∧ -(2 ^ 61) ≤ j ∧ j < 2 ^ 61)
    (hs : starEach [a, b] X.env = [(false, eval a X.env), (false, eval b X.env)] := by rfl) (hs2 : starEach [b] X.env = [(false, eval b X.env)] := by rfl) : I3 X Γ tg (.Call (.Name "range" p) [a, b] [] pos) (nums lo n) := by
  subst hi hj
  have h := i_range2 (tg := tg) (p := p) (pos := pos) hm hg ha hb ⟨by omega, by omega, by omega, by omega⟩ hs hs2
  rw [rngD_nums] at h
  exact h
end L3
set_option Elab.async false
set_option linter.all false
set_option maxRecDepth 100000
set_option maxHeartbeats 4000000
namespace L3
open PySem PySem.Spec PySem.Calls PyProof.Rows L2
section
variable {X : Cx} {B : Bs} {Γ : Ga} {Ω : Om} {E : E3} {rest body : List Stmt} {tg iter a b e : Expr} {es : List Expr} {d : D} {ds : List D} {pos pos' p : Pos} {RL : List D → Om → Prop} {RT : Bool → Om → Prop}
end
theorem tb_shift {α : Type} {n : Nat} {f : Nat → α} : tb (n + 1) f = f 0 :: tb n fun i => f (i + 1) := by
  unfold tb
  rw [List.range_succ_eq_map, List.map_cons, List.map_map]
  rfl
section
variable {P : Program} {w : World} {K : PySem.W.Frag} {mg : Str → Option Value} {base : Heap} {x : Str} {st : Stmt} {N ps : List Str} {k n : Nat}
end
end L3
set_option Elab.async false
set_option linter.all false
set_option maxRecDepth 100000
set_option maxHeartbeats 4000000
namespace L3
open PySem PySem.Spec PySem.Calls PyProof.Rows L2
end L3
set_option Elab.async false
set_option linter.all false
set_option maxRecDepth 100000
set_option maxHeartbeats 4000000
namespace L3
open PySem PySem.Spec PySem.Calls PyProof.Rows L2
end L3
set_option Elab.async false
set_option linter.all false
set_option maxRecDepth 100000
set_option maxHeartbeats 4000000
namespace L3
open PySem PySem.Spec PySem.Calls PyProof.Rows L2
def spLaw3 (K : PySem.W.Frag) : Sp := fun vs H Q _ => ∃ (a : Addr) (ns : List Int), vs = [.ref a] ∧ SqL K H a (ns.map V.int) ∧ ns.length ≤ 63 ∧ ∀ H', Q (.bl true) H'
theorem ok_law3 {P : Program} {w : World} {K : PySem.W.Frag} {mg : Str → Option Value} {base : Heap} {f : Addr} {fd : FuncData} {st : Stmt} {N : List Str} {k : Nat} {x : Str} (F : Fun K "law" "law" st f fd) (S : FnScope N [x] (defScope st))
    (body : ∀ (cdv : Value) (A : Around) (outer : List Env) (s : Shared) (H : Hp) (E : XK), Room k (A.deeper (envOfC "law" (defScope st) s.heap.objs.size f cdv)) → ∀ (ns : List Int), ns.length ≤ 63 → ∀ B : Bs, B.M = [] →
      W3 (cx0 P w K mg base N "law" st f cdv A outer s H E) B (defBody st) (startG N [.scr ns]) [] ⟨fun _ _ => False, fun r _ => r = .bl true, fun _ _ => False, fun _ _ => False⟩) : FnOk P w K mg base CX0 (k + 1) f fd [x] (spLaw3 K) := by
  refine F.ok S (fun vs H Q E h => ?_) fun cdv A outer s H vs Q E hr h => ⟨_, pss_w, ?_⟩
  · obtain ⟨a, ns, rfl, _⟩ := h
    rfl
  · obtain ⟨a, ns, rfl, hS, hlen, q⟩ := h
    have il : IsL K H [.scr ns] [.ref a] := IsL.cons (by simp only [Is]; exact ⟨a, rfl, hS⟩) IsL.nil
    refine ends_mono (D := E3.to K ⟨[], H, H⟩ H ⟨fun _ _ => False, fun r _ => r = .bl true, fun _ _ => False, fun _ _ => False⟩) (D' := { nx := fun _ H' => Q .non H', rt := Q }) ?_ ?_ ?_ ?_ (body cdv A outer s H E hr ns hlen ⟨[], H, H⟩ rfl H _ H (Sat.entry (Same.refl _) il))
    · rintro σ' H' ⟨_, _, _, _, _, z⟩
      exact z.elim
    · rintro v H' ⟨r, Ω', F', ⟨σ', S'⟩, f', iv, rfl⟩
      rw [isB iv]
      exact q H'
    · rintro σ' H' ⟨_, _, _, _, _, z⟩
      exact z.elim
    · rintro σ' H' ⟨_, _, _, _, _, z⟩
      exact z.elim
theorem sp_law3 {K : PySem.W.Frag} {H : Hp} {a : Addr} {ns : List Int} (h : ns.length ≤ 63) (hS : SqL K H a (ns.map V.int)) : spLaw3 K [.ref a] H (fun v _ => v = .bl true) fun _ _ _ => False := ⟨a, ns, rfl, hS, h, fun _ => rfl⟩
end L3
namespace L3
open PySem PySem.Spec PySem.Calls PyProof.Rows L2
theorem globPair {K : PySem.W.Frag} {h : Heap} {mg : Str → Option Value} (X : K.In h) (G : h.Ns mainGlobals mg) {x : Str} {l : Addr} {od : Option Addr} {i j : Int} {t u : Tok} {n : Nat} {sl : Array (Option Value)} (a : PySem.W.nsIn K mainGlobals x = some (some (.ref l)))
    (lk : K.lookup l = some ⟨.type "tuple", od, .seq #[.int i t, .int j u] n, sl⟩) : GlobD K mg x (.tup [.int i, .int j]) :=
  ⟨.ref l, .ref l, PySem.W.mg_of X G a, rfl, fun F => Is.tupI (xs := [.int i, .int j]) (.inr ⟨_, _, _, lk, rfl, rfl, by show 2 ≤ sizeLine; decide, .cons ⟨_, rfl⟩ (.cons ⟨_, rfl⟩ .nil)⟩) (IsL.cons (i_int F) (IsL.cons (i_int F) IsL.nil))⟩
end L3
set_option Elab.async false
set_option linter.all false
set_option maxRecDepth 100000
set_option maxHeartbeats 4000000
namespace L3
open PySem PySem.Spec PySem.Calls PyProof.Rows L2
theorem dv_le {a g : Int} (h : 0 ≤ a) (hg : 0 < g) : 0 ≤ a / g ∧ a / g ≤ a := ⟨Int.ediv_nonneg h (Int.le_of_lt hg), Int.ediv_le_self _ h⟩
theorem dv_fit {a b : Int} {n : Nat} (h : 0 ≤ b ∧ b ≤ a) (ha : a.natAbs < 2 ^ n) : b.natAbs < 2 ^ n := by omega
theorem pow_mono {m n : Nat} (h : m ≤ n) : 2 ^ m ≤ 2 ^ n := Nat.pow_le_pow_right (by decide) h
theorem sh_mul (p q : Rat) : sh (p * q) = D.tup [D.int ((Rat.divInt p.num q.den).num * (Rat.divInt q.num p.den).num), D.int (((Rat.divInt p.num q.den).den : Int) * ((Rat.divInt q.num p.den).den : Int))] := by
  unfold sh
  rw [My.mul_num, My.mul_den, ← My.num_share (My.den_pos' q), ← My.num_share (My.den_pos' p), ← My.den_share (My.den_pos' q), ← My.den_share (My.den_pos' p), Int.natCast_mul, Int.natCast_ediv, Int.natCast_ediv,
    Int.fdiv_eq_ediv_of_nonneg _ (Int.le_of_lt (My.G_pos (My.den_pos' q))), Int.fdiv_eq_ediv_of_nonneg _ (Int.le_of_lt (My.G_pos (My.den_pos' p))), Int.fdiv_eq_ediv_of_nonneg _ (Int.le_of_lt (My.G_pos (My.den_pos' q))), Int.fdiv_eq_ediv_of_nonneg _ (Int.le_of_lt (My.G_pos (My.den_pos' p)))]
  rfl
theorem inv_parts {q : Rat} (h : 0 < q) : q⁻¹.num = (q.den : Int) ∧ (q⁻¹.den : Int) = q.num := by
  have hp := My.q_num_pos h
  rw [Rat.num_inv, Rat.den_inv]
  constructor
  · rw [Int.sign_eq_one_of_pos hp, Int.one_mul]
  · rw [if_neg (by omega)]
    omega
theorem sh_inv {q : Rat} (h : 0 < q) : sh q⁻¹ = D.tup [D.int (q.den : Int), D.int q.num] := by
  unfold sh
  rw [(inv_parts h).1, (inv_parts h).2]
theorem sz_inv {q : Rat} {n : Nat} (h : 0 < q) (s : Sz n q) : Sz n q⁻¹ := by
  have e := inv_parts h
  have hp := My.q_num_pos h
  obtain ⟨s1, s2⟩ := s
  refine ⟨?_, ?_⟩
  · rw [e.1]; exact s2
  · have := e.2
    omega
end L3
set_option Elab.async false
set_option linter.all false
set_option maxRecDepth 100000
set_option maxHeartbeats 4000000
namespace L3
open PySem PySem.Spec PySem.Calls PyProof.Rows L2
def wM (n : Nat) (W B : Nat → Nat → Rat) : Nat → Nat → Rat := fun i j => if j < n then W i j else B i (j - n)
theorem good_wM {n m s : Nat} {W B : Nat → Nat → Rat} (h : Good n n s W) (hb : Good n m s B) : Good n (n + m) s (wM n W B) := fun i j hi hj => by
  unfold wM
  by_cases q : j < n
  · rw [if_pos q]; exact h i j hi q
  · rw [if_neg q]; exact hb i (j - n) hi (by omega)
theorem wM_cols {n : Nat} {W B : Nat → Nat → Rat} : ∀ i j, i < n → j < n → wM n W B i j = W i j := fun i j _ hj => by
  unfold wM
  rw [if_pos hj]
theorem piv_wM {n : Nat} {W B : Nat → Nat → Rat} (h : Piv n W) : Piv n (wM n W B) := fun k hk => by
  rw [EK_cols wM_cols k (by omega) k k hk hk]
  exact h k hk
theorem tb_append {α : Type} {n : Nat} {f : Nat → α} : ∀ {m : Nat} {g : Nat → α}, tb n f ++ tb m g = tb (n + m) fun j => if j < n then f j else g (j - n)
  | 0, g => by
    show tb n f ++ [] = tb n _
    rw [List.append_nil]
    exact tb_congr fun j hj => by rw [if_pos hj]
  | m + 1, g => by
    rw [show n + (m + 1) = (n + m) + 1 from rfl, tb_succ, tb_succ, ← List.append_assoc, tb_append, if_neg (by omega), Nat.add_sub_cancel_left]
theorem wM_row {n m i : Nat} {W B : Nat → Nat → Rat} : (tb n fun j => sh (W i j)) ++ (tb m fun j => sh (B i j)) = tb (n + m) fun j => sh (wM n W B i j) := by
  rw [tb_append]
  refine tb_congr fun j _ => ?_
  unfold wM
  by_cases q : j < n
  · rw [if_pos q, if_pos q]
  · rw [if_neg q, if_neg q]
theorem tb_drop {α : Type} {n m : Nat} {f : Nat → α} : (tb (n + m) f).drop n = tb m fun j => f (n + j) := by
  refine List.ext_getElem? fun i => ?_
  rw [List.getElem?_drop]
  by_cases h : i < m
  · rw [tb_get h, tb_get (by omega)]
  · rw [List.getElem?_eq_none_iff.mpr (by rw [tb_len]; omega), List.getElem?_eq_none_iff.mpr (by rw [tb_len]; omega)]
def SysM (n m s : Nat) (W B : Nat → Nat → Rat) : Prop := n ≤ 1000 ∧ m ≤ 1000 ∧ Good n n s W ∧ Good n m s B ∧ sK s n ≤ big
def C_rows : List D → D → Prop := fun ds d => ∃ (n m s : Nat) (W B : Nat → Nat → Rat), ds = [shM n n W, shM n m B] ∧ d = shM n m (fun i j => EK (wM n W B) n i (n + j)) ∧ SysM n m s W B ∧ Piv n W
end L3
set_option Elab.async false
set_option linter.all false
set_option maxRecDepth 100000
set_option maxHeartbeats 4000000
namespace L2
open PySem PySem.Spec PySem.Calls PyProof.Rows
section
variable {X : Cx}
theorem op_le_str : OpR X (compareOp .LtE) (fun x y H Q => ∃ i j, x = .str i ∧ y = .str j ∧ Q (.bl (!decide (j.cps.toList < i.cps.toList))) H) := by
  rintro pins s σ H x y v u Q I rx ry ⟨i, j, rfl, rfl, q⟩
  obtain ⟨t1, rfl⟩ := rx
  obtain ⟨t2, rfl⟩ := ry
  exact PySem.P.le_str (fin_bl I q rfl)
def Its (x : Str) : It := ⟨fun i _ => i < x.cps.size, fun i H v H' => H' = H ∧ ∃ c, x.cps[i]? = some c ∧ v = .str ⟨#[c]⟩, fun i _ => x.cps.size ≤ i⟩
theorem turn_str {P : Program} {w : World} {K : PySem.W.Frag} {tg : Expr} (x : Str) (tk : Tok) (it : Addr) : Turn P w K tg (Its x) [it] it (fun i h => h.IsStrIter it "str_ascii_iterator" x tk i) where
  mem := by simp
  obj := fun i h st b hb => by
    obtain ⟨o, e1, c1, d1⟩ := st
    rw [List.mem_singleton.mp hb]
    exact ⟨o, e1, fun v z => by rw [d1] at z; cases z⟩
  keep := fun i h h' ⟨o, e1, r1⟩ k => ⟨o, k it (by simp) o e1, r1⟩
  item := by
    intro X hP hw hK hc i pins s σ H E I hf st hg
    subst hP hw hK
    obtain ⟨f0, f1, f2, f3, f4, f5⟩ := hf it (by simp)
    have hi : i < x.cps.size := hg
    have hx : x.cps[i]? = some x.cps[i] := Array.getElem?_eq_getElem hi
    refine wpAny_pyNext_ascii_item st hx fun h' st' sb => ?_
    have I1 : Inv X pins σ H { s with heap := h', toks := s.toks + 1 } := I.turned (fun b o hb e => (sb.2 b hb).trans e) f0 f1 f3 f4 f5
    obtain ⟨o, e1, c1, d1⟩ := id st'
    exact ⟨_, rfl, go_of (s := { s with heap := h', toks := s.toks + 1 }) e1 c1 d1 (by decide) ⟨.str ⟨#[x.cps[i]]⟩, H, I1, ⟨_, rfl⟩, ⟨rfl, _, hx, rfl⟩, st', fun b hb => (hf b hb).1⟩⟩
  done := by
    intro X hP hw hK hc i pins s σ H E I hf st hg
    subst hP hw hK
    obtain ⟨f0, f1, f2, f3, f4, f5⟩ := hf it (by simp)
    have hi : x.cps.size ≤ i := hg
    exact wpAny_pyNext_ascii_end (I.ok.hd hc) st (Array.getElem?_eq_none_iff.mpr hi) fun h' eb => ⟨rfl, I.turned (t' := s.toks) (fun b o hb e => eb b o hb e) f0 f1 f3 f4 f5⟩
  self := fun _ _ _ _ _ st h => wpAny_pyIter_striter_ascii st h
def iStr (tl : TE) : TI := fun σ H R => tl σ H fun v H1 => ∃ x : Str, v = .str x ∧ x.cps.all (· < 128) = true ∧ R (Its x) H1
theorem pi_str {tg l : Expr} {tl : TE} (hl : PE X l tl) : PI X tg l (iStr tl) := by
  intro pins s σ H R I h
  refine thn (hl pins s σ H _ I h) fun v s1 ⟨y, H1, I1, r1, x, e1, ha, q⟩ => ?_
  subst e1
  obtain ⟨tk, rfl⟩ := r1
  refine wpAny_pyIter_ascii ha ⟨s1.heap.objs.size, [s1.heap.objs.size], _, _, H1, rfl, I1.kept (t' := s1.toks) fun b o e => Heap.get?_push_of_some _ e, turn_str x tk _, ⟨_, Heap.get?_push_size _ rfl, rfl, rfl⟩, fun b hb => ?_, q⟩
  rw [List.mem_singleton.mp hb]
  exact I1.fpOk (Nat.le_refl _) (I1.hok.fresh (Nat.le_refl _))
theorem bls_get {bs : List Bool} {us : List Value} (r : Vals (bs.map V.bl) us) (i : Nat) (v : Value) (h : us.toArray[i]? = some v) : v = .bool (bs.getD i false) := by
  have hl := r.length
  rw [List.length_map] at hl
  have h' : us[i]? = some v := by simpa using h
  have hi : i < bs.length := by rw [hl]; exact (List.getElem?_eq_some_iff.mp h').1
  have e1 : (bs.map V.bl)[i]? = some (V.bl bs[i]) := by rw [List.getElem?_map, List.getElem?_eq_getElem hi]; rfl
  obtain ⟨u, hu, ru⟩ := r.get e1
  rw [h'] at hu
  cases hu
  rw [List.getD_eq_getElem?_getD, List.getElem?_eq_getElem hi]
  exact ru
theorem range_bls (bs : List Bool) : (List.range bs.length).map (fun i => bs.getD i false) = bs := by
  refine List.ext_getElem? fun i => ?_
  rw [List.getElem?_map]
  by_cases hi : i < bs.length
  · rw [List.getElem?_range hi, List.getElem?_eq_getElem hi]
    simp [List.getD_eq_getElem?_getD, List.getElem?_eq_getElem hi]
  · rw [List.getElem?_eq_none_iff.mpr (by simpa using hi), List.getElem?_eq_none_iff.mpr (by omega)]
    rfl
theorem call_all3 (hc : X.calm = true) : CallR X (.builtin "all") (fun xs H Q => ∃ (a : Addr) (bs : List Bool), xs = [.ref a] ∧ SqL X.K H a (bs.map V.bl) ∧ Q (.bl (bs.all id)) H) := by
  rintro pins s σ H xs us Q I r ⟨a, bs, rfl, hl, q⟩
  obtain ⟨u, rfl, rx⟩ := vals1 r
  cases rx
  obtain ⟨its, rv, p, _⟩ := I.list hl
  have hz : its.toArray.size = bs.length := by have := rv.length; rw [List.length_map] at this; simpa using this.symm
  refine call_all_walk (wpAny_pyIter_list p.isList ⟨s.heap.objs.size, _, _, _, _, _, fun i => bs.getD i false, rfl, Walks.list (show X.A.in1.handled = none from I.ok.hd hc) s.heap.objs.size a (Nat.ne_of_lt (let ⟨_, e, _⟩ := p.isList; Heap.lt_size e)) its.toArray, ⟨⟨_, Heap.get?_push_size _ rfl, rfl, rfl⟩, p.isList.at fun o e => Heap.get?_push_of_some _ e⟩, ?_, ?_⟩)
  · intro i v s' Q' E' hv hq
    rw [bls_get rv i v hv]
    exact wpAny_truthy_bool hq
  · intro h' tk hk
    refine ⟨.bl (bs.all id), H, I.kept fun b o e => hk b o (fun z => absurd (Heap.lt_size e) (by rw [List.mem_singleton.mp z]; exact Nat.lt_irrefl _)) (Heap.get?_push_of_some _ e), ?_, q⟩
    show Value.bool _ = Value.bool _
    rw [hz, show (List.range bs.length).all (fun i => bs.getD i false) = ((List.range bs.length).map fun i => bs.getD i false).all id by rw [List.all_map]; rfl, range_bls]
theorem call_any3 (hc : X.calm = true) : CallR X (.builtin "any") (fun xs H Q => ∃ (a : Addr) (bs : List Bool), xs = [.ref a] ∧ SqL X.K H a (bs.map V.bl) ∧ Q (.bl (bs.any id)) H) := by
  rintro pins s σ H xs us Q I r ⟨a, bs, rfl, hl, q⟩
  obtain ⟨u, rfl, rx⟩ := vals1 r
  cases rx
  obtain ⟨its, rv, p, _⟩ := I.list hl
  have hz : its.toArray.size = bs.length := by have := rv.length; rw [List.length_map] at this; simpa using this.symm
  refine call_any_walk (wpAny_pyIter_list p.isList ⟨s.heap.objs.size, _, _, _, _, _, fun i => bs.getD i false, rfl, Walks.list (show X.A.in1.handled = none from I.ok.hd hc) s.heap.objs.size a (Nat.ne_of_lt (let ⟨_, e, _⟩ := p.isList; Heap.lt_size e)) its.toArray, ⟨⟨_, Heap.get?_push_size _ rfl, rfl, rfl⟩, p.isList.at fun o e => Heap.get?_push_of_some _ e⟩, ?_, ?_⟩)
  · intro i v s' Q' E' hv hq
    rw [bls_get rv i v hv]
    exact wpAny_truthy_bool hq
  · intro h' tk hk
    refine ⟨.bl (bs.any id), H, I.kept fun b o e => hk b o (fun z => absurd (Heap.lt_size e) (by rw [List.mem_singleton.mp z]; exact Nat.lt_irrefl _)) (Heap.get?_push_of_some _ e), ?_, q⟩
    show Value.bool _ = Value.bool _
    rw [hz, show (List.range bs.length).any (fun i => bs.getD i false) = ((List.range bs.length).map fun i => bs.getD i false).any id by rw [List.any_map]; rfl, range_bls]
end
end L2
namespace L3
open PySem PySem.Spec PySem.Calls PyProof.Rows L2
theorem IsL.of_bls {K : PySem.W.Frag} {H : Hp} : ∀ {bs : List Bool} {xs : List V}, IsL K H (bs.map D.bl) xs → xs = bs.map V.bl
  | [], _, h => by simp only [List.map_nil, IsL] at h; subst h; rfl
  | n :: ns, _, h => by
    simp only [List.map_cons, IsL] at h
    obtain ⟨x, r, rfl, h1, h2⟩ := h
    simp only [Is] at h1
    rw [h1, IsL.of_bls h2]; rfl
def signs (x : Str) : List D := x.cps.toList.map fun c => D.str ⟨#[c]⟩
def leS (i j : Str) : Bool := !decide (j.cps.toList < i.cps.toList)
theorem bt_all : bootBuiltins "all" = some (.builtin "all") := by decide +kernel
theorem bt_any : bootBuiltins "any" = some (.builtin "any") := by decide +kernel
section
variable {X : Cx} {Γ : Ga} {tg a b c : Expr} {pos p : Pos} {x y z : Str} {bs : List Bool}
theorem i_text (h : P3 X Γ a (.str x)) (ha : x.cps.all (· < 128) = true) : I3 X Γ tg a (signs x) := PI.of (pi_str h) fun σ H R ⟨F, fh, sl, q⟩ => ⟨F, fh, sl, fun v H' F' p i => by
  refine ⟨x, isS i, ha, q _ H' F' p fun n F2 H2 e1 e2 => ⟨fun d w => ?_, fun w => ?_⟩⟩
  · unfold signs at w
    rw [List.getElem?_map] at w
    obtain ⟨c, hc, rfl⟩ := Option.map_eq_some_iff.mp w
    rw [Array.getElem?_toList] at hc
    have hi : n < x.cps.size := (Array.getElem?_eq_some_iff.mp hc).1
    refine ⟨hi, ?_⟩
    rintro v' H3 ⟨rfl, c', hc', rfl⟩
    rw [hc] at hc'
    cases hc'
    exact ⟨F2, Pur.refl e2, i_str F2⟩
  · unfold signs at w
    rw [List.length_map, Array.length_toList] at w
    exact w⟩
theorem p_chainS (ha : P3 X Γ a (.str x)) (hb : P3 X Γ b (.str y)) (hc : P3 X Γ c (.str z)) (hm : lastMarks [.LtE, .LtE] [b, c] = false := by with_unfolding_all rfl) : P3 X Γ (.Compare a [.LtE, .LtE] [b, c] pos) (.bl (leS x y && leS y z)) :=
  PE.of (pe_chain op_le_str op_le_str ha hb hc hm) fun σ H Q ⟨F, fh, sl, k⟩ => ⟨F, fh, sl, fun v1 H1 F1 p1 i1 => ⟨F1, p1.fh, sl.mono p1.ff, fun v2 H2 F2 p2 i2 => ⟨x, y, isS i1, isS i2, leS x y, rfl, by
    cases q : leS x y with
    | true =>
      rw [if_pos rfl]
      exact ⟨F2, p2.fh, sl.mono (p1.ff.trans p2.ff), fun v3 H3 F3 p3 i3 => ⟨y, z, isS i2, isS i3, k _ _ _ ((p1.trans p2).trans p3) (by rw [q]; exact i_bl F3)⟩⟩
    | false =>
      rw [if_neg Bool.false_ne_true]
      exact k _ _ _ (p1.trans p2) (by rw [q]; exact i_bl F2)⟩⟩⟩
theorem p_all (hk : X.calm = true) (hm : X.mg "all" = none) (hg : Gl X "all") (ha : P3 X Γ a (.lst (bs.map D.bl))) (he : starEach [a] X.env = (false, eval a X.env) :: starEach [] X.env := by rfl) : P3 X Γ (.Call (.Name "all" p) [a] [] pos) (.bl (bs.all id)) :=
  p_callB (call_all3 hk) hg hm bt_all (pl_cons ha pl_nil he) (fun vs H F Q fh i k => by
    obtain ⟨v, rfl, j0⟩ := isL1 i
    obtain ⟨l, xs, rfl, s1, j1⟩ := isLst j0
    cases IsL.of_bls j1
    exact ⟨l, bs, rfl, fh.seq s1, k _ _ _ (Pur.refl fh) (i_bl F)⟩) (by decide) (by decide) he
theorem p_any (hk : X.calm = true) (hm : X.mg "any" = none) (hg : Gl X "any") (ha : P3 X Γ a (.lst (bs.map D.bl))) (he : starEach [a] X.env = (false, eval a X.env) :: starEach [] X.env := by rfl) : P3 X Γ (.Call (.Name "any" p) [a] [] pos) (.bl (bs.any id)) :=
  p_callB (call_any3 hk) hg hm bt_any (pl_cons ha pl_nil he) (fun vs H F Q fh i k => by
    obtain ⟨v, rfl, j0⟩ := isL1 i
    obtain ⟨l, xs, rfl, s1, j1⟩ := isLst j0
    cases IsL.of_bls j1
    exact ⟨l, bs, rfl, fh.seq s1, k _ _ _ (Pur.refl fh) (i_bl F)⟩) (by decide) (by decide) he
end
def isHard (L : Bool) : HO → Bool
  | .lst _ => !L
  | .ins _ _ _ => true
  | .ext _ => true
  | .dK _ => true
  | .dT _ => true
  | _ => false
def Hard (L : Bool) (Ω : Om) : Prop := ∀ q ∈ Ω, ∀ F o, q.2 F o → isHard L o = true
theorem hard_nil {L : Bool} : Hard L [] := fun q hq => absurd hq (by simp)
theorem hard_cons {L : Bool} {a : Addr} {w : Ow} {Ω : Om} (h : ∀ F o, w F o → isHard L o = true) (t : Hard L Ω) : Hard L ((a, w) :: Ω) := fun q hq => by
  rcases List.mem_cons.mp hq with z | z
  · subst z; exact h
  · exact t q z
def Lends (K : PySem.W.Frag) (w : Ow) (d : D) : Prop := ∀ (F F' : Hp) (a : Addr) (o : HO), Same F F' → F' a = some o → w F o → Is K F' d (.ref a)
theorem lends_lst {K : PySem.W.Frag} {ds : List D} : Lends K (oLst K ds) (.lst ds) := fun F F' a o e ha ⟨xs, ho, il⟩ => by
  subst ho
  exact Is.lstI (.inl ha) (il.mono e)
def Lent (K : PySem.W.Frag) (Ω : Om) (Γ Γ' : Ga) : Prop := ∀ (i : Nat) (d : D), Γ'[i]? = some (some d) → Γ[i]? = some (some d) ∨ ∃ a w, Γ[i]? = some (some (.raw (.ref a))) ∧ (a, w) ∈ Ω ∧ Lends K w d
theorem lent_refl {K : PySem.W.Frag} {Ω : Om} {Γ : Ga} : Lent K Ω Γ Γ := fun i d h => .inl h
theorem lent_set {K : PySem.W.Frag} {Ω : Om} {Γ Γ' : Ga} {i : Nat} {a : Addr} {w : Ow} {d : D} (h : Lent K Ω Γ Γ') (hi : Γ[i]? = some (some (.raw (.ref a)))) (hm : (a, w) ∈ Ω) (hl : Lends K w d) : Lent K Ω Γ (Γ'.set i (some d)) := fun j e q => by
  rw [List.getElem?_set] at q
  by_cases hj : i = j
  · rw [if_pos hj] at q
    split at q
    · cases q
      exact .inr ⟨a, w, hj ▸ hi, hm, hl⟩
    · cases q
  · rw [if_neg hj] at q
    exact h j e q
def addF (Ω : Om) (F H : Hp) : Hp := fun b => if b ∈ Ω.map (·.1) then H b else F b
def subF (Ω : Om) (F : Hp) : Hp := fun b => if b ∈ Ω.map (·.1) then none else F b
mutual
/-- tuples (and lists, where L) of scalars, all the way down -/
def solid (L : Bool) : D → Bool
  | .non => true
  | .bl _ => true
  | .int _ => true
  | .str _ => true
  | .tup ds => solids L ds
  | .lst ds => L && solids L ds
  | .dk _ ds => solids L ds
  | _ => false
def solids (L : Bool) : List D → Bool
  | [] => true
  | d :: ds => solid L d && solids L ds
end
section
variable {L : Bool} {K : PySem.W.Frag} {B : Bs} {Γ Γ' : Ga} {Ω : Om} {F F1 : Hp} {σ : L2.St} {H H1 : Hp}
theorem Sat.notin (S : Sat K B Γ Ω F σ H) {b : Addr} {u : HO} (e : F b = some u) : b ∉ Ω.map (·.1) := fun z => by
  obtain ⟨q, hq, rfl⟩ := List.mem_map.mp z
  rw [(S.own q hq).1] at e
  cases e
theorem Sat.addSame (S : Sat K B Γ Ω F σ H) : Same F (addF Ω F H) := fun b u e => by
  unfold addF
  rw [if_neg (S.notin e)]
  exact e
theorem Sat.addSub (S : Sat K B Γ Ω F σ H) : Same (addF Ω F H) H := fun b u e => by
  unfold addF at e
  split at e
  · exact e
  · exact S.fh _ _ e
theorem Sat.lent (S : Sat K B Γ Ω F σ H) (h : Lent K Ω Γ Γ') : Sl K (addF Ω F H) Γ' σ := fun i d q => by
  rcases h i d q with z | ⟨a, w, z, m, l⟩
  · obtain ⟨v, h1, h2⟩ := S.sl i d z
    exact ⟨v, h1, h2.mono S.addSame⟩
  · obtain ⟨v, h1, h2⟩ := S.sl i _ z
    cases isR h2
    obtain ⟨fa, o, ha, ho⟩ := S.own (a, w) m
    refine ⟨_, h1, l F _ a o S.addSame ?_ (ho F (Same.refl _))⟩
    unfold addF
    rw [if_pos (List.mem_map.mpr ⟨(a, w), m, rfl⟩)]
    exact ha
theorem Sat.back (S : Sat K B Γ Ω F σ H) (p : Pur (addF Ω F H) H F1 H1) : Pur F H (subF Ω F1) H1 := by
  refine ⟨fun b u e => ?_, fun b u e => ?_, p.hh, fun b q => ?_⟩
  · unfold subF
    rw [if_neg (S.notin e)]
    exact p.ff _ _ (S.addSame _ _ e)
  · unfold subF at e
    split at e
    · cases e
    · exact p.fh _ _ e
  · unfold subF at q
    split at q
    · exact absurd rfl q
    · rename_i hn
      rcases p.new b q with z | z
      · unfold addF at z
        rw [if_neg hn] at z
        exact .inl z
      · exact .inr z
mutual
theorem is_sub (hh : ∀ b ∈ Ω.map (·.1), ∀ o, F1 b = some o → isHard L o = true) : ∀ {d : D} {v : V}, solid L d = true → Is K F1 d v → Is K (subF Ω F1) d v
  | .non, v, _, h => by simp only [Is] at h ⊢; exact h
  | .bl _, v, _, h => by simp only [Is] at h ⊢; exact h
  | .int _, v, _, h => by simp only [Is] at h ⊢; exact h
  | .str _, v, _, h => by simp only [Is] at h ⊢; exact h
  | .tup ds, v, hs, h => by
    rw [solid] at hs
    obtain ⟨a, xs, rfl, h1, h2⟩ := isT h
    refine Is.tupI ?_ (isL_sub hh hs h2)
    have keep : ∀ o, F1 a = some o → isHard L o = false → subF Ω F1 a = some o := fun o e n => by
      unfold subF
      rw [if_neg fun z => by rw [hh a z o e] at n; cases n]
      exact e
    rcases h1 with (h1 | ⟨o, h1⟩) | h1
    · exact .inl (.inl (keep _ h1 rfl))
    · exact .inl (.inr ⟨o, keep _ h1 rfl⟩)
    · exact .inr h1
  | .raw _, _, h, _ => by simp [solid] at h
  | .lst ds, v, hs, h => by
    rw [solid, Bool.and_eq_true] at hs
    obtain ⟨a, xs, rfl, h1, h2⟩ := isLstR h
    refine Is.lstI ?_ (isL_sub hh hs.2 h2)
    have keep : ∀ o, F1 a = some o → isHard L o = false → subF Ω F1 a = some o := fun o e n => by
      unfold subF
      rw [if_neg fun z => by rw [hh a z o e] at n; cases n]
      exact e
    rcases h1 with h1 | ⟨o, h1⟩
    · exact .inl (keep _ h1 (by rw [hs.1]; rfl))
    · exact .inr ⟨o, keep _ h1 rfl⟩
  | .dk ks ds, v, hs, h => by
    rw [solid] at hs
    simp only [Is] at h ⊢
    obtain ⟨a, xs, o, e1, e2, e3, e4⟩ := h
    refine ⟨a, xs, o, e1, ?_, e3, isL_sub hh hs e4⟩
    unfold subF
    rw [if_neg fun z => by have := hh a z _ e2; cases this]
    exact e2
  | .dt _ _, _, h, _ => by simp [solid] at h
  | .obj _ _ _, _, h, _ => by simp [solid] at h
  | .exc _, _, h, _ => by simp [solid] at h
  | .scr _, _, h, _ => by simp [solid] at h
theorem isL_sub (hh : ∀ b ∈ Ω.map (·.1), ∀ o, F1 b = some o → isHard L o = true) : ∀ {ds : List D} {xs : List V}, solids L ds = true → IsL K F1 ds xs → IsL K (subF Ω F1) ds xs
  | [], xs, _, h => by simp only [IsL] at h ⊢; exact h
  | d :: ds, xs, hs, h => by
    rw [solids, Bool.and_eq_true] at hs
    simp only [IsL] at h ⊢
    obtain ⟨x, r, e, h1, h2⟩ := h
    exact ⟨x, r, e, is_sub hh hs.1 h1, isL_sub hh hs.2 h2⟩
end
theorem Sat.hard (S : Sat K B Γ Ω F σ H) (hd : Hard L Ω) (p : Pur (addF Ω F H) H F1 H1) : ∀ b ∈ Ω.map (·.1), ∀ o, F1 b = some o → isHard L o = true := fun b hb o e => by
  obtain ⟨q, hq, rfl⟩ := List.mem_map.mp hb
  obtain ⟨_, o', h1, h2⟩ := S.own q hq
  have e1 := p.fh _ _ e
  rw [p.hh _ _ h1] at e1
  cases e1
  exact hd q hq F _ (h2 F (Same.refl _))
end
section
variable {X : Cx} {B : Bs} {Γ Γ' : Ga} {Ω : Om} {E : E3} {rest : List Stmt} {e : Expr} {d : D} {ds : List D} {k : Bool} {R : D → Om → Prop} {RT : Bool → Om → Prop} {L : Bool}
theorem v_lend (h : P3 X Γ' e d) (hl : Lent X.K Ω Γ Γ') (hd : Hard L Ω) (hs : solid L d = true) (r : R d Ω) : V3 X B e Γ Ω R := fun F σ H S =>
  h.we ⟨addF Ω F H, S.addSub, S.lent hl, fun v H' F' p i => ⟨d, Ω, subF Ω F', S.pur (S.back p), (S.back p).ff, is_sub (S.hard hd p) hs i, r⟩⟩
theorem vt_lend (h : PT3 X Γ' e k) (hl : Lent X.K Ω Γ Γ') (r : RT k Ω) : VT3 X B e Γ Ω RT := fun F σ H S =>
  h.wt ⟨addF Ω F H, S.addSub, S.lent hl, fun H' F' p => ⟨Ω, subF Ω F', S.pur (S.back p), (S.back p).ff, r⟩⟩
end
end L3
set_option Elab.async false
set_option linter.all false
set_option maxRecDepth 100000
set_option maxHeartbeats 4000000
namespace L2
open PySem PySem.Spec PySem.Calls PyProof.Rows
def MethK (K : PySem.W.Frag) (C : Addr) (m q : Str) (st : Stmt) (ps : List Str) : Prop := ∃ f fd, Fun K m q st f fd ∧ Meth K C m f ∧ Binds K fd ps []
def OkM (P : Program) (w : World) (K : PySem.W.Frag) (mg : Str → Option Value) (base : Heap) (CX : CXT) (k : Nat) (C : Addr) (m : Str) (ps : List Str) (sp : Sp) : Prop := ∃ f fd, FnOk P w K mg base CX k f fd ps sp ∧ Meth K C m f ∧ Binds K fd ps []
def InitK (K : PySem.W.Frag) (mg : Str → Option Value) (x : Str) (C : Addr) (q : Str) (st : Stmt) (ps : List Str) : Prop := ∃ f fd, Fun K "__init__" q st f fd ∧ Mk K C f ∧ mg x = some (.ref C) ∧ Binds K fd ps []
def OkI (P : Program) (w : World) (K : PySem.W.Frag) (mg : Str → Option Value) (base : Heap) (CX : CXT) (k : Nat) (x : Str) (C : Addr) (ps : List Str) (sp : Sp) : Prop := ∃ f fd, FnOk P w K mg base CX k f fd ps sp ∧ Mk K C f ∧ mg x = some (.ref C) ∧ Binds K fd ps []
theorem meth_mk {K : PySem.W.Frag} {C : Addr} {m q : Str} {st : Stmt} (ps : List Str) {f : Addr} {oc : Value} {od an : Option Addr} {osl : Array (Option Value)} {kV doc pm cdv ct : Value}
    (a : PySem.W.findIn K (.ref C) m = some (some (.ref f))) (i : PySem.W.isFn K (.ref f) = true) (l : K.lookup f = some ⟨oc, od, .func (PySem.W.fnOf m q (defArgs st) (defBody st) (defScope st) .none kV doc pm an cdv ct), osl⟩)
    (c : PySem.W.codeIn K cdv q = true) (k : PySem.W.keepIn K (.ref f) = true)
    (hb : ∀ (kV doc pm : Value) (an : Option Addr) (cdv ct : Value) (us : List Value), us.length = ps.length → bindArgs (PySem.W.fnOf m q (defArgs st) (defBody st) (defScope st) .none kV doc pm an cdv ct) ⟨us, []⟩ = pure (ps.zip us)) : MethK K C m q st ps :=
  have F := fun_mk (st := st) l c k
  ⟨f, _, F, ⟨a, i, k⟩, F.binds hb⟩
theorem init_mk {K : PySem.W.Frag} {h : Heap} {mg : Str → Option Value} (X : K.In h) (G : h.Ns mainGlobals mg) {x : Str} {C : Addr} {q : Str} {st : Stmt} (ps : List Str) {f : Addr} {oc : Value} {od an : Option Addr} {osl : Array (Option Value)} {kV doc pm cdv ct : Value}
    (g : PySem.W.nsIn K mainGlobals x = some (some (.ref C))) (a : PySem.W.findIn K (.ref C) "__init__" = some (some (.ref f))) (mk : PySem.W.makesIn K C = true) (i : PySem.W.isFn K (.ref f) = true) (kc : PySem.W.keepIn K (.ref C) = true)
    (l : K.lookup f = some ⟨oc, od, .func (PySem.W.fnOf "__init__" q (defArgs st) (defBody st) (defScope st) .none kV doc pm an cdv ct), osl⟩)
    (c : PySem.W.codeIn K cdv q = true) (k : PySem.W.keepIn K (.ref f) = true)
    (hb : ∀ (kV doc pm : Value) (an : Option Addr) (cdv ct : Value) (us : List Value), us.length = ps.length → bindArgs (PySem.W.fnOf "__init__" q (defArgs st) (defBody st) (defScope st) .none kV doc pm an cdv ct) ⟨us, []⟩ = pure (ps.zip us)) : InitK K mg x C q st ps :=
  have F := fun_mk (st := st) l c k
  ⟨f, _, F, ⟨mk, a, i, kc⟩, PySem.W.mg_of X G g, F.binds hb⟩
section
variable {P : Program} {w : World} {K : PySem.W.Frag} {mg : Str → Option Value} {base : Heap} {C : Addr} {m q x : Str} {st : Stmt} {N ps : List Str} {k : Nat} {sp : Sp}
theorem MethK.ok (d : MethK K C m q st ps) (S : FnScope N ps (defScope st)) (len : ∀ vs H Q E, sp vs H Q E → vs.length = ps.length)
    (hbody : ∀ (f : Addr) (cdv : Value) (A : Around) (outer : List Env) (s : Shared) (H : Hp) (vs : List V) (Q : VK) (E : XK), Room k (A.deeper (envOfC q (defScope st) s.heap.objs.size f cdv)) → sp vs H Q E →
      ∃ t, PSs (cxOf CX0 P w K mg base N q (defScope st) f cdv A outer s H E).nox (defBody st) t ∧ t { nx := fun _ H' => Q .non H', rt := Q } (start N vs) H) : OkM P w K mg base CX0 (k + 1) C m ps sp := by
  obtain ⟨f, fd, F, hm, b⟩ := d
  exact ⟨f, fd, F.ok S len fun cdv A outer s H vs Q E hr h => hbody f cdv A outer s H vs Q E hr h, hm, b⟩
theorem InitK.ok (d : InitK K mg x C q st ps) (S : FnScope N ps (defScope st)) (len : ∀ vs H Q E, sp vs H Q E → vs.length = ps.length)
    (hbody : ∀ (f : Addr) (cdv : Value) (A : Around) (outer : List Env) (s : Shared) (H : Hp) (vs : List V) (Q : VK) (E : XK), Room k (A.deeper (envOfC q (defScope st) s.heap.objs.size f cdv)) → sp vs H Q E →
      ∃ t, PSs (cxOf CX0 P w K mg base N q (defScope st) f cdv A outer s H E).nox (defBody st) t ∧ t { nx := fun _ H' => Q .non H', rt := Q } (start N vs) H) : OkI P w K mg base CX0 (k + 1) x C ps sp := by
  obtain ⟨f, fd, F, hm, g, b⟩ := d
  exact ⟨f, fd, F.ok S len fun cdv A outer s H vs Q E hr h => hbody f cdv A outer s H vs Q E hr h, hm, g, b⟩
end
theorem putF_new {f : Str} {v : V} : ∀ {fs : List (Str × V)}, (∀ p ∈ fs, p.1 ≠ f) → putF f v fs = fs ++ [(f, v)]
  | [], _ => rfl
  | (g, x) :: r, h => by
    rw [putF, if_neg (h (g, x) (by simp)), putF_new fun p hp => h p (List.mem_cons_of_mem _ hp)]
    rfl
end L2
namespace L3
open PySem PySem.Spec PySem.Calls PyProof.Rows L2
def oIns (K : PySem.W.Frag) (C : Addr) (fs : List Str) (ds : List D) : Ow := fun F o => ∃ dx xs, o = .ins C dx (fs.zip xs) ∧ fs.length = xs.length ∧ IsL K F ds xs
theorem hard_ins {K : PySem.W.Frag} {C : Addr} {fs : List Str} {ds : List D} {L : Bool} : ∀ F o, oIns K C fs ds F o → isHard L o = true := fun F o ⟨dx, xs, e, _⟩ => by subst e; rfl
theorem lends_ins {K : PySem.W.Frag} {C : Addr} {fs : List Str} {ds : List D} : Lends K (oIns K C fs ds) (.obj C fs ds) := fun F F' a o e ha ⟨dx, xs, ho, hl, il⟩ => by
  subst ho
  simp only [Is]
  exact ⟨a, dx, xs, rfl, ha, hl, il.mono e⟩
theorem isO {K : PySem.W.Frag} {F : Hp} {C : Addr} {fs : List Str} {ds : List D} {v : V} (h : Is K F (.obj C fs ds) v) : ∃ a dx xs, v = .ref a ∧ F a = some (.ins C dx (fs.zip xs)) ∧ fs.length = xs.length ∧ IsL K F ds xs := by simpa only [Is] using h
theorem fld_is {K : PySem.W.Frag} {F : Hp} {f : Str} {d : D} : ∀ {fs : List Str} {ds : List D} {xs : List V}, IsL K F ds xs → (fs.zip ds).lookup f = some d → ∃ x, (fs.zip xs).lookup f = some x ∧ Is K F d x
  | [], _, _, _, h => by simp at h
  | g :: fs, [], _, _, h => by simp at h
  | g :: fs, e :: ds, xs, il, h => by
    simp only [IsL] at il
    obtain ⟨x, r, rfl, i1, i2⟩ := il
    rw [List.zip_cons_cons, List.lookup_cons] at h ⊢
    cases q : f == g with
    | true => rw [q] at h; cases h; exact ⟨x, rfl, i1⟩
    | false => rw [q] at h; exact fld_is i2 h
theorem fld_none {f : Str} : ∀ {fs : List Str} {xs : List V}, f ∉ fs → (fs.zip xs).lookup f = none
  | [], _, _ => by simp
  | g :: fs, [], _ => by simp
  | g :: fs, x :: xs, h => by
    rw [List.zip_cons_cons, List.lookup_cons]
    have hg : f ≠ g := fun z => h (by simp [z])
    rw [show (f == g) = false from beq_eq_false_iff_ne.mpr hg]
    exact fld_none fun z => h (List.mem_cons_of_mem _ z)
theorem zip_snoc {f : Str} {x : V} : ∀ {fs : List Str} {xs : List V}, fs.length = xs.length → fs.zip xs ++ [(f, x)] = (fs ++ [f]).zip (xs ++ [x])
  | [], [], _ => rfl
  | g :: fs, y :: xs, h => by
    rw [List.zip_cons_cons, List.cons_append, List.cons_append, List.cons_append, List.zip_cons_cons, zip_snoc (by simpa using h)]
section
variable {X : Cx} {B : Bs} {Γ : Ga} {Ω : Om} {E : E3} {rest : List Stmt} {e o : Expr} {es : List Expr} {d : D} {ds : List D} {C : Addr} {fs : List Str} {f : Str} {pos pos' p apos : Pos} {R : D → Om → Prop}
theorem p_fld (he : P3 X Γ e (.obj C fs ds)) (c : Cls X.K C) (n : NoAttr X.K C f) (l : (fs.zip ds).lookup f = some d) (hb : attributeBase e f X.env (eval e X.env) = eval e X.env := by rfl) : P3 X Γ (.Attribute e f pos) d :=
  PE.of (pe_fld he hb) fun σ H Q ⟨F, fh, sl, k⟩ => ⟨F, fh, sl, fun v H' F' p i => by
    obtain ⟨a, dx, xs, rfl, ha, hl, il⟩ := isO i
    obtain ⟨x, h1, h2⟩ := fld_is il l
    exact ⟨a, C, dx, _, x, rfl, p.fh _ _ ha, c, n, h1, k _ _ _ p h2⟩⟩
theorem v_fldO {a : Addr} (he : P3 X Γ e (.raw (.ref a))) (hm : (a, oIns X.K C fs ds) ∈ Ω) (c : Cls X.K C) (n : NoAttr X.K C f) (l : (fs.zip ds).lookup f = some d) (r : R d Ω) (hb : attributeBase e f X.env (eval e X.env) = eval e X.env := by rfl) : V3 X B (.Attribute e f pos) Γ Ω R := fun F σ H S pins s I =>
  pe_fld he hb pins s σ H _ I ⟨F, S.fh, S.sl, fun v H' F' pu i => by
    cases isR i
    have S1 := S.pur pu
    obtain ⟨fa, o', ha, ho⟩ := S1.own _ hm
    obtain ⟨dx, xs, rfl, hl, il⟩ := ho F' (Same.refl _)
    obtain ⟨x, h1, h2⟩ := fld_is il l
    exact ⟨a, C, dx, _, x, rfl, ha, c, n, h1, d, Ω, F', S1, pu.ff, h2, r⟩⟩
theorem w_setF {a : Addr} (ho : P3 X Γ o (.raw (.ref a))) (c : Cls X.K C) (n : NoAttr X.K C f)
    (h : V3 X B e Γ Ω fun d Ω1 => ∃ fs ds Ω2, Ω1.Perm ((a, oIns X.K C fs ds) :: Ω2) ∧ f ∉ fs ∧ fs.length < 1000 ∧ W3 X B rest Γ ((a, oIns X.K C (fs ++ [f]) (ds ++ [d])) :: Ω2) E)
    (hs : swapsWith e (some (.Attribute o f pos')) pos.line X.env = pure false := by rfl) : W3 X B (.Assign [.Attribute o f pos'] e pos :: rest) Γ Ω E := fun F σ H S pins s I =>
  pss_cons (ps_fld ho pe_w hs) pss_w pins s σ H _ I ((h F σ H S).mono fun v H1 ⟨d, Ω1, F1, S1, f1, i1, fs, ds, Ω2, pm, hf, hz, h1⟩ => ⟨F1, S1.fh, S1.sl, fun y H2 F2 p2 i2 => by
    cases isR i2
    have S2 := (S1.pur p2).perm pm.symm
    obtain ⟨fa, o', ha, ho'⟩ := S2.own (a, oIns X.K C fs ds) (by simp)
    obtain ⟨dx, xs, rfl, hl, il⟩ := ho' F2 (Same.refl _)
    refine ⟨a, C, dx, _, rfl, ha, c, n, by rw [List.length_zip, ← hl]; omega, ?_⟩
    rw [putF_new (f := f) (v := v) (fs := fs.zip xs) (fun q hq z => hf (by rw [← z]; exact (List.of_mem_zip hq).1)), zip_snoc hl]
    exact to_mono (f1.trans p2.ff) (h1 F2 σ _ (S2.turn fun F3 e3 => ⟨dx, xs ++ [v], rfl, by rw [List.length_append, List.length_append, hl]; rfl, (il.mono e3).append (IsL.cons (i1.mono (p2.ff.trans e3)) IsL.nil)⟩))⟩)
end
def spF (K : PySem.W.Frag) (n : Nat) (C : List D → List D → Prop) : Sp := fun vs H Q _ => ∃ ds gs F, C ds gs ∧ ds.length = n ∧ Same F H ∧ IsL K F ds vs ∧ ∀ p xs H' F', Pur F H F' H' → H p = none → F' p = none → H' p = some (.lst xs) → IsL K F' gs xs → Q (.ref p) H'
def spI (K : PySem.W.Frag) (n : Nat) (Cc : Addr) (C : List D → List Str × List D → Prop) : Sp := fun vs H Q _ => ∃ (a : Addr) (us : List V) (ds : List D) (r : List Str × List D) (F : Hp) (dx : Addr), vs = .ref a :: us ∧ ds.length + 1 = n ∧ Same F H ∧ F a = none ∧ H a = some (.ins Cc dx []) ∧ IsL K F ds us ∧ C ds r ∧
  ∀ (H' F' : Hp) (dx' : Addr) (xs : List V), Same F F' → Same F' H' → (∀ b o, b ≠ a → H b = some o → H' b = some o) → (∀ b, F' b ≠ none → F b ≠ none ∨ H b = none) → F' a = none → H' a = some (.ins Cc dx' (r.1.zip xs)) → r.1.length = xs.length → IsL K F' r.2 xs → Q .non H'
theorem spF.len {K : PySem.W.Frag} {n : Nat} {C : List D → List D → Prop} {vs : List V} {H : Hp} {Q : VK} {E : XK} (h : spF K n C vs H Q E) : vs.length = n := by
  obtain ⟨ds, d, F, _, l, _, i, _⟩ := h
  rw [i.len, l]
theorem spI.len {K : PySem.W.Frag} {n : Nat} {Cc : Addr} {C : List D → List Str × List D → Prop} {vs : List V} {H : Hp} {Q : VK} {E : XK} (h : spI K n Cc C vs H Q E) : vs.length = n := by
  obtain ⟨a, us, ds, r, F, dx, rfl, l, _, _, _, i, _⟩ := h
  rw [List.length_cons, i.len, l]
section
variable {X : Cx} {sts : List Stmt} {N : List Str} {n : Nat} {vs : List V} {H : Hp} {Q : VK} {E : XK}
theorem reads_pure {C : List D → D → Prop} (h : spP X.K n C vs H Q E)
    (body : ∀ (ds : List D) (r : D), C ds r → ∀ B : Bs, B.M = [] → W3 X B sts (startG N ds) [] ⟨fun _ _ => r = .non, fun r' _ => r' = r, fun _ _ => False, fun _ _ => False⟩) : ∃ t, PSs X sts t ∧ t { nx := fun _ H' => Q .non H', rt := Q } (L2.start N vs) H := by
  refine ⟨_, pss_w, ?_⟩
  obtain ⟨ds, r, F, hC, hl, fh, il, q⟩ := h
  refine ends_mono (D := E3.to X.K ⟨[], F, H⟩ F ⟨fun _ _ => r = .non, fun r' _ => r' = r, fun _ _ => False, fun _ _ => False⟩) (D' := { nx := fun _ H' => Q .non H', rt := Q }) ?_ ?_ ?_ ?_ (body ds r hC ⟨[], F, H⟩ rfl F (L2.start N vs) H (Sat.entry fh il))
  · rintro σ' H' ⟨Γ', Ω', F', S', f', e⟩
    subst e
    exact q _ _ _ (S'.toPur rfl) (i_non F')
  · rintro v H' ⟨d', Ω', F', ⟨σ', S'⟩, f', i', e⟩
    subst e
    exact q _ _ _ (S'.toPur rfl) i'
  · rintro σ' H' ⟨_, _, _, _, _, z⟩
    exact z.elim
  · rintro σ' H' ⟨_, _, _, _, _, z⟩
    exact z.elim
theorem reads_fresh {C : List D → List D → Prop} (h : spF X.K n C vs H Q E)
    (body : ∀ (ds gs : List D), C ds gs → ∀ B : Bs, B.M = [] → W3 X B sts (startG N ds) [] ⟨fun _ _ => False, fun r Ω => ∃ p, r = .raw (.ref p) ∧ Ω = [(p, oLst X.K gs)], fun _ _ => False, fun _ _ => False⟩) : ∃ t, PSs X sts t ∧ t { nx := fun _ H' => Q .non H', rt := Q } (L2.start N vs) H := by
  refine ⟨_, pss_w, ?_⟩
  obtain ⟨ds, gs, F, hC, hl, fh, il, q⟩ := h
  refine ends_mono (D := E3.to X.K ⟨[], F, H⟩ F ⟨fun _ _ => False, fun r Ω => ∃ p, r = .raw (.ref p) ∧ Ω = [(p, oLst X.K gs)], fun _ _ => False, fun _ _ => False⟩) (D' := { nx := fun _ H' => Q .non H', rt := Q }) ?_ ?_ ?_ ?_ (body ds gs hC ⟨[], F, H⟩ rfl F (L2.start N vs) H (Sat.entry fh il))
  · rintro σ' H' ⟨_, _, _, _, _, z⟩
    exact z.elim
  · rintro v H' ⟨d', Ω', F', ⟨σ', S'⟩, f', i', p, rfl, rfl⟩
    cases isR i'
    obtain ⟨fa, o, ha, ho⟩ := S'.own (p, oLst X.K gs) (by simp)
    obtain ⟨xs, rfl, il'⟩ := ho F' (Same.refl _)
    refine q p xs H' F' (S'.toPur rfl) ?_ fa ha il'
    rcases S'.od (p, oLst X.K gs) (by simp) with z | z
    · cases z
    · exact z
  · rintro σ' H' ⟨_, _, _, _, _, z⟩
    exact z.elim
  · rintro σ' H' ⟨_, _, _, _, _, z⟩
    exact z.elim
theorem reads_init {Cc : Addr} {C : List D → List Str × List D → Prop} (h : spI X.K n Cc C vs H Q E)
    (body : ∀ (a : Addr) (ds : List D) (r : List Str × List D), C ds r → ∀ B : Bs, B.M = [a] → W3 X B sts (startG N (.raw (.ref a) :: ds)) [(a, oIns X.K Cc [] [])] ⟨fun _ Ω => Ω = [(a, oIns X.K Cc r.1 r.2)], fun _ _ => False, fun _ _ => False, fun _ _ => False⟩) : ∃ t, PSs X sts t ∧ t { nx := fun _ H' => Q .non H', rt := Q } (L2.start N vs) H := by
  refine ⟨_, pss_w, ?_⟩
  obtain ⟨a, us, ds, r, F, dx, rfl, hl, fh, fa, ha, il, hC, q⟩ := h
  have il' : IsL X.K F (.raw (.ref a) :: ds) (.ref a :: us) := IsL.cons (i_raw F) il
  have S0 : Sat X.K ⟨[a], F, H⟩ (startG N (.raw (.ref a) :: ds)) [(a, oIns X.K Cc [] [])] F (L2.start N (.ref a :: us)) H := by
    refine ⟨Same.refl _, fh, fun _ q => .inl q, fun _ _ _ e => e, by simp, fun p hp => ?_, fun p hp => ?_, Sl.start il'⟩
    · rw [List.mem_singleton.mp hp]; exact .inl (by simp)
    · rw [List.mem_singleton.mp hp]; exact ⟨fa, _, ha, fun _ _ => ⟨dx, [], rfl, rfl, IsL.nil⟩⟩
  refine ends_mono (D := E3.to X.K ⟨[a], F, H⟩ F ⟨fun _ Ω => Ω = [(a, oIns X.K Cc r.1 r.2)], fun _ _ => False, fun _ _ => False, fun _ _ => False⟩) (D' := { nx := fun _ H' => Q .non H', rt := Q }) ?_ ?_ ?_ ?_ (body a ds r hC ⟨[a], F, H⟩ rfl F _ H S0)
  · rintro σ' H' ⟨Γ', Ω', F', S', f', rfl⟩
    obtain ⟨fa', o, ha', ho⟩ := S'.own (a, oIns X.K Cc r.1 r.2) (by simp)
    obtain ⟨dx', xs, rfl, hl', il2⟩ := ho F' (Same.refl _)
    refine q H' F' dx' xs S'.f0 S'.fh (fun b o hb e => S'.kp b o (by simpa using hb) e) (fun b hb => ?_) fa' ha' hl' il2
    rcases S'.fr b hb with z | z | z
    · exact .inl z
    · exact .inr z
    · have e : b = a := by simpa using z
      subst e
      exact absurd fa' hb
  · rintro v H' ⟨_, _, _, _, _, _, z⟩
    exact z.elim
  · rintro σ' H' ⟨_, _, _, _, _, z⟩
    exact z.elim
  · rintro σ' H' ⟨_, _, _, _, _, z⟩
    exact z.elim
end
section
variable {P : Program} {w : World} {K : PySem.W.Frag} {mg : Str → Option Value} {base : Heap} {x m q : Str} {st : Stmt} {N ps : List Str} {k n : Nat} {Cc : Addr}
theorem om_pure {C : List D → D → Prop} (d : MethK K Cc m q st ps) (S : FnScope N ps (defScope st)) (hn : ps.length = n)
    (body : ∀ (f : Addr) (cdv : Value) (A : Around) (outer : List Env) (s : Shared) (H : Hp) (E : XK), Room k (A.deeper (envOfC q (defScope st) s.heap.objs.size f cdv)) → ∀ (ds : List D) (r : D), C ds r → ∀ B : Bs, B.M = [] →
      W3 (cx0 P w K mg base N q st f cdv A outer s H E) B (defBody st) (startG N ds) [] ⟨fun _ _ => r = .non, fun r' _ => r' = r, fun _ _ => False, fun _ _ => False⟩) : OkM P w K mg base CX0 (k + 1) Cc m ps (spP K n C) :=
  d.ok S (fun vs H Q E h => h.len.trans hn.symm) fun f cdv A outer s H vs Q E hr h => reads_pure (X := cx0 P w K mg base N q st f cdv A outer s H E) h (body f cdv A outer s H E hr)
theorem om_fresh {C : List D → List D → Prop} (d : MethK K Cc m q st ps) (S : FnScope N ps (defScope st)) (hn : ps.length = n)
    (body : ∀ (f : Addr) (cdv : Value) (A : Around) (outer : List Env) (s : Shared) (H : Hp) (E : XK), Room k (A.deeper (envOfC q (defScope st) s.heap.objs.size f cdv)) → ∀ (ds gs : List D), C ds gs → ∀ B : Bs, B.M = [] →
      W3 (cx0 P w K mg base N q st f cdv A outer s H E) B (defBody st) (startG N ds) [] ⟨fun _ _ => False, fun r Ω => ∃ p, r = .raw (.ref p) ∧ Ω = [(p, oLst K gs)], fun _ _ => False, fun _ _ => False⟩) : OkM P w K mg base CX0 (k + 1) Cc m ps (spF K n C) :=
  d.ok S (fun vs H Q E h => (spF.len h).trans hn.symm) fun f cdv A outer s H vs Q E hr h => reads_fresh (X := cx0 P w K mg base N q st f cdv A outer s H E) h (body f cdv A outer s H E hr)
theorem oi_init {C : List D → List Str × List D → Prop} (d : InitK K mg x Cc q st ps) (S : FnScope N ps (defScope st)) (hn : ps.length = n)
    (body : ∀ (f : Addr) (cdv : Value) (A : Around) (outer : List Env) (s : Shared) (H : Hp) (E : XK), Room k (A.deeper (envOfC q (defScope st) s.heap.objs.size f cdv)) → ∀ (a : Addr) (ds : List D) (r : List Str × List D), C ds r → ∀ B : Bs, B.M = [a] →
      W3 (cx0 P w K mg base N q st f cdv A outer s H E) B (defBody st) (startG N (.raw (.ref a) :: ds)) [(a, oIns K Cc [] [])] ⟨fun _ Ω => Ω = [(a, oIns K Cc r.1 r.2)], fun _ _ => False, fun _ _ => False, fun _ _ => False⟩) : OkI P w K mg base CX0 (k + 1) x Cc ps (spI K n Cc C) :=
  d.ok S (fun vs H Q E h => (spI.len h).trans hn.symm) fun f cdv A outer s H vs Q E hr h => reads_init (X := cx0 P w K mg base N q st f cdv A outer s H E) h (body f cdv A outer s H E hr)
end
section
variable {X : Cx} {Γ : Ga} {d : D} {ds gs : List D} {n k : Nat} {Cc : Addr} {fs : List Str} {x m : Str} {ps : List Str} {e o : Expr} {es : List Expr} {p pos apos : Pos}
theorem frozen_pur {F H F' H' : Hp} {p : Addr} {u : HO} (pu : Pur F H F' H') (hp : H p = none) (fp : F' p = none) (e : H' p = some u) : Pur F H (upd F' p u) H' ∧ Same F' (upd F' p u) := by
  have w : Same F' (upd F' p u) := fun b y q => by rw [upd_ne (ne_of_none q fp)]; exact q
  refine ⟨⟨pu.ff.trans w, fun b y q => ?_, pu.hh, fun b q => ?_⟩, w⟩
  · by_cases hb : b = p
    · subst hb; rw [upd_same] at q; cases q; exact e
    · rw [upd_ne hb] at q; exact pu.fh _ _ q
  · by_cases hb : b = p
    · subst hb; exact .inr hp
    · rw [upd_ne hb] at q; exact pu.new b q
theorem p_meth {C : List D → D → Prop} {pl : Sem Bool} (ok : OkM X.prog X.w X.K X.mg X.base CX0 k Cc m ps (spP X.K n C)) (c : Cls X.K Cc) (hr : Room k X.A) (ho : P3 X Γ o (.obj Cc fs gs)) (hm : m ∉ fs) (ha : PL3 X Γ (e :: es) ds) (hC : C (.obj Cc fs gs :: ds) d) (hn : ds.length + 1 = n := by rfl)
    (hst : starEach (e :: es) X.env = (false, eval e X.env) :: starEach es X.env := by rfl) (hpl : (backTo pos (starEach es X.env)).any (·.1) = false := by rfl)
    (ht : eval (.Call (.Attribute o m apos) (e :: es) [] pos) X.env = (do
      let ov ← eval o X.env
      standAt apos.atName
      let (f, first) ← holding [ov] (getMethod ov m pl)
      callWith pos f first (backTo pos (starEach (e :: es) X.env)) (backToKw pos (keywordEach [] X.env))) := by rfl) : P3 X Γ (.Call (.Attribute o m apos) (e :: es) [] pos) d := by
  obtain ⟨f, fd, F, hM, hb⟩ := ok
  exact PE.of (pe_meth (pl := pl) ho c hM F hr hb .nil pass0 ha hst hpl ht) fun σ H Q ⟨F0, fh, sl, q⟩ => ⟨F0, fh, sl, fun v H1 F1 p1 i1 => by
    obtain ⟨a, dx, xs, rfl, h1, hl, il⟩ := isO i1
    refine ⟨a, dx, _, rfl, p1.fh _ _ h1, fld_none hm, F1, p1.fh, sl.mono p1.ff, fun vs H2 F2 p2 i2 => ?_⟩
    dsimp only
    rw [List.append_nil]
    exact ⟨_, d, F2, hC, hn, p2.fh, IsL.cons (i1.mono p2.ff) i2, fun v' H3 F3 p3 i3 => q v' H3 F3 ((p1.trans p2).trans p3) i3⟩⟩
theorem p_meth0 {C : List D → D → Prop} {pl : Sem Bool} (ok : OkM X.prog X.w X.K X.mg X.base CX0 k Cc m ps (spP X.K 1 C)) (c : Cls X.K Cc) (hr : Room k X.A) (ho : P3 X Γ o (.obj Cc fs gs)) (hm : m ∉ fs) (hC : C [.obj Cc fs gs] d)
    (ht : eval (.Call (.Attribute o m apos) [] [] pos) X.env = (do
      let ov ← eval o X.env
      standAt apos.atName
      let (f, first) ← holding [ov] (getMethod ov m pl)
      callWith pos f first (backTo pos (starEach [] X.env)) (backToKw pos (keywordEach [] X.env))) := by rfl) : P3 X Γ (.Call (.Attribute o m apos) [] [] pos) d := by
  obtain ⟨f, fd, F, hM, hb⟩ := ok
  exact PE.of (pe_meth0 (pl := pl) ho c hM F hr hb .nil pass0 ht) fun σ H Q ⟨F0, fh, sl, q⟩ => ⟨F0, fh, sl, fun v H1 F1 p1 i1 => by
    obtain ⟨a, dx, xs, rfl, h1, hl, il⟩ := isO i1
    refine ⟨a, dx, _, rfl, p1.fh _ _ h1, fld_none hm, ?_⟩
    exact ⟨_, d, F1, hC, rfl, p1.fh, IsL.cons i1 IsL.nil, fun v' H3 F3 p3 i3 => q v' H3 F3 (p1.trans p3) i3⟩⟩
theorem pf_meth0 {C : List D → List D → Prop} {pl : Sem Bool} (ok : OkM X.prog X.w X.K X.mg X.base CX0 k Cc m ps (spF X.K 1 C)) (c : Cls X.K Cc) (hr : Room k X.A) (ho : P3 X Γ o (.obj Cc fs gs)) (hm : m ∉ fs) (hC : C [.obj Cc fs gs] ds)
    (ht : eval (.Call (.Attribute o m apos) [] [] pos) X.env = (do
      let ov ← eval o X.env
      standAt apos.atName
      let (f, first) ← holding [ov] (getMethod ov m pl)
      callWith pos f first (backTo pos (starEach [] X.env)) (backToKw pos (keywordEach [] X.env))) := by rfl) : PF3 X Γ (.Call (.Attribute o m apos) [] [] pos) ds := by
  obtain ⟨f, fd, F, hM, hb⟩ := ok
  exact PE.of (pe_meth0 (pl := pl) ho c hM F hr hb .nil pass0 ht) fun σ H Q ⟨F0, fh, sl, q⟩ => ⟨F0, fh, sl, fun v H1 F1 p1 i1 => by
    obtain ⟨a, dx, xs, rfl, h1, hl, il⟩ := isO i1
    refine ⟨a, dx, _, rfl, p1.fh _ _ h1, fld_none hm, ?_⟩
    exact ⟨_, ds, F1, hC, rfl, p1.fh, IsL.cons i1 IsL.nil, fun b xs H2 F2 p2 hb fb e2 il2 => q b xs H2 F2 (p1.trans p2) (p1.hh.free hb) fb e2 il2⟩⟩
theorem p_make {C : List D → List Str × List D → Prop} {r : List Str × List D} (ok : OkI X.prog X.w X.K X.mg X.base CX0 k x Cc ps (spI X.K n Cc C)) (hr : Room (k + 1) X.A) (hg : Gl X x) (ha : PL3 X Γ (e :: es) ds) (hC : C ds r) (hn : ds.length + 1 = n := by rfl) (hdb : (x == ("__debug__" : Str)) = false := by decide)
    (he : starEach (e :: es) X.env = (false, eval e X.env) :: starEach es X.env := by rfl) (hpl : (backTo pos (starEach es X.env)).any (·.1) = false := by rfl) : P3 X Γ (.Call (.Name x p) (e :: es) [] pos) (.obj Cc r.1 r.2) := by
  obtain ⟨f, fd, F, M, hm, hb⟩ := ok
  exact PE.of (pe_make M F hr hg hm hb .nil pass0 ha hdb he hpl) fun σ H Q ⟨F0, fh, sl, q⟩ => ⟨F0, fh, sl, fun vs H1 F1 p1 i1 a dx ha' hdx hne => by
    rw [List.append_nil]
    have f1 : F1 a = none := p1.fh.free ha'
    have sm : Same H1 (upd (upd H1 dx (.own a)) a (.ins Cc dx [])) := fun b u e1 => by
      rw [upd_ne (ne_of_none e1 ha'), upd_ne (ne_of_none e1 hdx)]
      exact e1
    refine ⟨a, vs, ds, r, F1, dx, rfl, hn, p1.fh.trans sm, f1, upd_same, i1, hC, fun H' F' dx' xs g1 g2 g3 g4 g5 g6 g7 g8 => ⟨rfl, ?_⟩⟩
    have pu : Pur F1 H1 F' H' := by
      refine ⟨g1, g2, fun b u e1 => g3 b u (ne_of_none e1 ha') (sm b u e1), fun b e1 => ?_⟩
      rcases g4 b e1 with z | z
      · exact .inl z
      · exact .inr (sm.free z)
    obtain ⟨pf, w⟩ := frozen_pur pu ha' g5 g6
    refine q _ _ _ (p1.trans pf) ?_
    simp only [Is]
    exact ⟨a, dx', xs, rfl, upd_same, g7, g8.mono w⟩⟩
end
end L3
set_option Elab.async false
set_option linter.all false
set_option maxRecDepth 100000
set_option maxHeartbeats 4000000
namespace L2
open PySem PySem.Spec PySem.Calls PyProof.Rows
abbrev K2 := Sum Key (List Key)
theorem kV_is {P : Program} {w : World} {k : Key} {u : Value} (r : RelV (kV k) u) : (mixKind P w).is k u = true := by
  cases k with
  | inl i => obtain ⟨t, q⟩ := (show ∃ t, u = Value.int i t from r); subst q; exact beq_self_eq_true i
  | inr x => obtain ⟨t, q⟩ := (show ∃ t, u = Value.str x t from r); subst q; exact beq_self_eq_true x
theorem items_are {P : Program} {w : World} : ∀ {ks : List Key} {us : List Value}, Vals (ks.map kV) us → ItemsAre (mixKind P w) ks us
  | [], _, h => by cases h; exact .nil
  | k :: ks, _, h => by
    cases h with
    | cons r t => exact .cons (kV_is r) (items_are t)
def TupOf (h : Heap) (ks : List Key) (a : Addr) : Prop := ∃ us : List Value, h.IsTuple a us.toArray ∧ Vals (ks.map kV) us
def ItOf (h : Heap) : K2 → Value → Prop
  | .inl k, v => RelV (kV k) v
  | .inr ks, v => ∃ a, v = .ref a ∧ TupOf h ks a
def Tup2 (h : Heap) (ks : List K2) (a : Addr) : Prop := ∃ us : List Value, h.IsTuple a us.toArray ∧ Paired (ItOf h) ks us
theorem TupOf.key {P : Program} {w : World} {h : Heap} {ks : List Key} {a : Addr} (x : TupOf h ks a) : IsTupleKey (mixKind P w) h ks a := by
  obtain ⟨us, ⟨o, e1, c1, n, d1⟩, r⟩ := x
  exact ⟨o, us.toArray, n, e1, c1, d1, by simpa using items_are r⟩
theorem IsTuple.one {h : Heap} {a : Addr} {us vs : List Value} (x : h.IsTuple a us.toArray) (y : h.IsTuple a vs.toArray) : us = vs := by
  obtain ⟨o, e1, c1, n, d1⟩ := x
  obtain ⟨o', e2, c2, n', d2⟩ := y
  rw [e1] at e2
  cases e2
  rw [d1] at d2
  injection d2 with z _
  injection z
theorem kV_inj {k k' : Key} {v : Value} (x : RelV (kV k) v) (y : RelV (kV k') v) : k = k' := by
  cases k <;> cases k' <;> obtain ⟨t1, e1⟩ := x <;> obtain ⟨t2, e2⟩ := y <;> rw [e1] at e2 <;> cases e2 <;> rfl
theorem Vals.keys_inj : ∀ {x y : List Key} {us : List Value}, Vals (x.map kV) us → Vals (y.map kV) us → x = y
  | [], [], _, _, _ => rfl
  | [], _ :: _, _, h1, h2 => by cases h1; cases h2
  | _ :: _, [], _, h1, h2 => by cases h2; cases h1
  | k :: ks, k' :: ks', _, h1, h2 => by
    cases h1 with
    | cons r1 t1 =>
      cases h2 with
      | cons r2 t2 => rw [kV_inj r1 r2, Vals.keys_inj t1 t2]
theorem TupOf.inj {h : Heap} {a : Addr} {x y : List Key} (p : TupOf h x a) (q : TupOf h y a) : x = y := by
  obtain ⟨us, t1, r1⟩ := p
  obtain ⟨vs, t2, r2⟩ := q
  cases IsTuple.one t1 t2
  exact r1.keys_inj r2
theorem ItOf.inj {h : Heap} {x y : K2} {v : Value} (p : ItOf h x v) (q : ItOf h y v) : x = y := by
  cases x with
  | inl k =>
    cases y with
    | inl k' => rw [kV_inj p q]
    | inr ks =>
      obtain ⟨a, rfl, _⟩ := q
      cases k <;> (obtain ⟨t, z⟩ := p; cases z)
  | inr ks =>
    cases y with
    | inl k =>
      obtain ⟨a, rfl, _⟩ := p
      cases k <;> (obtain ⟨t, z⟩ := q; cases z)
    | inr ks' =>
      obtain ⟨a, rfl, t1⟩ := p
      obtain ⟨b, z, t2⟩ := q
      cases z
      rw [t1.inj t2]
theorem Its2.inj {h : Heap} : ∀ {x y : List K2} {us : List Value}, Paired (ItOf h) x us → Paired (ItOf h) y us → x = y
  | [], [], _, _, _ => rfl
  | [], _ :: _, _, h1, h2 => by cases h1; cases h2
  | _ :: _, [], _, h1, h2 => by cases h2; cases h1
  | k :: ks, k' :: ks', _, h1, h2 => by
    cases h1 with
    | cons r1 t1 =>
      cases h2 with
      | cons r2 t2 => rw [ItOf.inj r1 r2, Its2.inj t1 t2]
theorem Tup2.inj {h : Heap} {a : Addr} {x y : List K2} (p : Tup2 h x a) (q : Tup2 h y a) : x = y := by
  obtain ⟨us, t1, r1⟩ := p
  obtain ⟨vs, t2, r2⟩ := q
  cases IsTuple.one t1 t2
  exact Its2.inj r1 r2
theorem tup_keeps {h h' : Heap} {a d : Addr} {us : Array Value} {o : Obj} {es ep} (x : h.IsTuple a us) (e : h.get? d = some o) (hd : o.data = .dict es ep) (sb : Heap.SameBut d h h') : h'.IsTuple a us := by
  obtain ⟨o', e1, c1, n, d1⟩ := x
  have ne : a ≠ d := fun z => by
    subst z
    rw [e] at e1
    cases e1
    rw [hd] at d1
    cases d1
  exact ⟨o', (sb.2 a ne).trans e1, c1, n, d1⟩
theorem TupOf.keeps {h h' : Heap} {ks : List Key} {a d : Addr} {o : Obj} {es ep} (x : TupOf h ks a) (e : h.get? d = some o) (hd : o.data = .dict es ep) (sb : Heap.SameBut d h h') : TupOf h' ks a := by
  obtain ⟨us, t1, r1⟩ := x
  exact ⟨us, tup_keeps t1 e hd sb, r1⟩
theorem Tup2.keeps {h h' : Heap} {ks : List K2} {a d : Addr} {o : Obj} {es ep} (x : Tup2 h ks a) (e : h.get? d = some o) (hd : o.data = .dict es ep) (sb : Heap.SameBut d h h') : Tup2 h' ks a := by
  obtain ⟨us, t1, r1⟩ := x
  refine ⟨us, tup_keeps t1 e hd sb, Paired.mapP r1 fun k v q => ?_⟩
  cases k with
  | inl k => exact q
  | inr ks =>
    obtain ⟨b, e1, t2⟩ := q
    exact ⟨b, e1, t2.keeps e hd sb⟩
section
variable {P : Program} {w : World} {A : Around} {E : Value → Shared → Prop} {s : Shared}
def h2 (P : Program) (w : World) : K2 → Int
  | .inl k => (mixKind P w).hash k
  | .inr ks => tupleKeyHash (mixKind P w) ks
def n2 : K2 → Nat
  | .inl _ => 1
  | .inr ks => ks.length + 1
def hash2 (P : Program) (w : World) (ks : List K2) : Int := reduceHash (Builtin.Tuple.tupleHashOf (ks.map (h2 P w)))
def draws2 (ks : List K2) : Nat := (ks.map n2).sum + 1
theorem hash_it {k : K2} {v : Value} {Q : Int → Shared → Prop} (hu : A.units < cLine) (x : ItOf s.heap k v) (q : Q (h2 P w k) { s with toks := s.toks + n2 k }) : wpAny (model P w) A (pyHash v) Q E s := by
  cases k with
  | inl k => exact (mixKind P w).pyHash (kV_is x) q
  | inr ks =>
    obtain ⟨a, rfl, t⟩ := x
    exact wpAny_pyHash_tuple hu (t.key (P := P) (w := w)) q
theorem hash_2 {ks : List K2} {a : Addr} {Q : Int → Shared → Prop} (hu : A.units + 1 < cLine) (x : Tup2 s.heap ks a) (q : Q (hash2 P w ks) { s with toks := s.toks + draws2 ks }) : wpAny (model P w) A (pyHash (.ref a)) Q E s := by
  obtain ⟨us, ⟨o, ho, hc, n, hd⟩, hi⟩ := x
  have hT : s.TypeIs (.ref a) "tuple" := ⟨o, ho, hc⟩
  have hu0 : A.units < cLine := by omega
  unfold pyHash
  first | unfold pyHashByItsType | skip
  first | refine wpAny_bind (wpAny_cRoomFor_or (.inr hu0) ?_) | skip
  refine wpAny_bind (wpAny_specialOf hT F.slot_tuple_hash.lookup ?_)
  show wpAny _ _ (if (some (Value.builtin "tuple.__hash__") == some Value.none) = true then _ else _) Q E s
  refine wpAny_ite_split (fun z => absurd z (by rw [beq_builtin_none]; exact Bool.false_ne_true)) fun _ => ?_
  refine wpAny_bind (wpAny_specialOf hT F.slot_tuple_hash.lookup ?_)
  show wpAny _ _ (callSpecialIfBoundUnlessNone? (.ref a) "__hash__" _ >>= _) Q E s
  refine wpAny_bind (wpAny_callSpecialIfBoundUnlessNone?_slot hT F.slot_tuple_hash (wpAny_call_entry F.slot_tuple_hash hT F.entry_tuple_hash ?_ (F.args_tuple_hash_1 _)))
  show wpAny _ _ (Builtin.Tuple.tupleItemsOf (.ref a) >>= _) _ _ s
  refine wpAny_bind (wpAny_tupleItemsOf ho hd (wpAny_bind ?_))
  rw [← Array.forIn_toList]
  refine wpAny_forIn_list _ (fun r (b : Array Int) t => ∃ ps qs, ks = ps ++ qs ∧ Paired (ItOf s.heap) qs r ∧ b.toList = ps.map (h2 P w) ∧ t = { s with toks := s.toks + (ps.map n2).sum }) _ ?_ ?_ _ _ ⟨[], ks, rfl, by simpa using hi, rfl, rfl⟩
  · rintro v r b t ⟨ps, qs, rfl, hl, hb, rfl⟩
    cases hl with
    | @cons k _ qs' _ h1 hl' =>
      refine wpAny_bind (hash_it (P := P) (w := w) (s := { s with toks := s.toks + (ps.map n2).sum }) (by first | exact hu | exact hu0) h1 ?_)
      first
        | exact wpAny_pure ⟨ps ++ [k], qs', by simp, hl', by simp [hb], by simp [Nat.add_assoc]⟩
        | exact wpAny_bind (wpAny_pure (wpAny_pure ⟨ps ++ [k], qs', by simp, hl', by simp [hb], by simp [Nat.add_assoc]⟩))
  · rintro b t ⟨ps, qs, rfl, hl, hb, rfl⟩
    cases hl
    rw [List.append_nil] at q
    show wpAny _ _ (retInt (Builtin.Tuple.tupleHashOf b.toList)) _ _ _
    rw [hb]
    refine wpAny_ret_mkInt ?_
    unfold hash2 reduceHash draws2 at q
    show wpAny _ _ (if (decide (-(2 : Int) ^ 63 ≤ Builtin.Tuple.tupleHashOf (ps.map (h2 P w))) && decide (Builtin.Tuple.tupleHashOf (ps.map (h2 P w)) < 2 ^ 63)) = true then _ else _) Q E _
    split
    · rename_i hr
      rw [if_pos hr] at q
      exact wpAny_pure (by simpa [Nat.add_assoc] using q)
    · rename_i hr
      rw [if_neg hr] at q
      exact wpAny_bind (wpAny_rule (wpAny_pure (by simpa [Nat.add_assoc] using q)))
theorem key_eq {k k' : Key} {u v : Value} (x : RelV (kV k) u) (y : RelV (kV k') v) : SeqAt.EqAt A s u v (decide (k = k')) := by
  cases k with
  | inl i =>
    obtain ⟨t, rfl⟩ := x
    cases k' with
    | inl j =>
      obtain ⟨t', rfl⟩ := y
      have z := SeqAt.EqAt.int_int (A := A) (s := s) i t j t'
      rwa [show (i == j) = decide ((Sum.inl i : Key) = .inl j) by rw [Bool.eq_iff_iff]; simp] at z
    | inr j =>
      obtain ⟨t', rfl⟩ := y
      have z := SeqAt.EqAt.int_str (A := A) (s := s) i t j t'
      rwa [show false = decide ((Sum.inl i : Key) = .inr j) by simp] at z
  | inr i =>
    obtain ⟨t, rfl⟩ := x
    cases k' with
    | inl j =>
      obtain ⟨t', rfl⟩ := y
      have z := SeqAt.EqAt.str_int (A := A) (s := s) i t j t'
      rwa [show false = decide ((Sum.inr i : Key) = .inl j) by simp] at z
    | inr j =>
      obtain ⟨t', rfl⟩ := y
      have z := SeqAt.EqAt.str_str (A := A) (s := s) i t j t'
      rwa [show (i == j) = decide ((Sum.inr i : Key) = .inr j) by rw [Bool.eq_iff_iff]; simp] at z
theorem tups_rc {α : Type} [DecidableEq α] {a b : Addr} {us vs : List Value} {xs ys : List α} (h1 : s.heap.IsTuple a us.toArray) (h2 : s.heap.IsTuple b vs.toArray) (l1 : xs.length = us.length) (l2 : ys.length = vs.length) (hu : A.units < cLine)
    (he : ∀ (j : Nat) (x y : α) (u v : Value), xs[j]? = some x → ys[j]? = some y → us[j]? = some u → vs[j]? = some v → SeqAt.EqAt A.in1 s u v (decide (x = y))) : SeqAt.RcAt A s (.ref a) (.ref b) (decide (xs = ys)) := by
  have z := SeqAt.RcAt.tuples (e := fun j => decide (xs[j]? = ys[j]?)) h1 h2 hu (fun j q1 q2 => by
    have p1 : j < us.length := by simpa using q1
    have p2 : j < vs.length := by simpa using q2
    have x1 : xs[j]? = some (xs[j]'(by omega)) := List.getElem?_eq_getElem _
    have y1 : ys[j]? = some (ys[j]'(by omega)) := List.getElem?_eq_getElem _
    have := he j _ _ us[j] vs[j] x1 y1 (List.getElem?_eq_getElem _) (List.getElem?_eq_getElem _)
    simpa [x1, y1] using this)
  rwa [show ((List.range (min us.toArray.size vs.toArray.size)).all (fun j => decide (xs[j]? = ys[j]?)) && us.toArray.size == vs.toArray.size) = decide (xs = ys) by
    rw [Bool.eq_iff_iff]
    simp only [List.size_toArray, Bool.and_eq_true, List.all_eq_true, List.mem_range, decide_eq_true_eq, beq_iff_eq]
    constructor
    · rintro ⟨e1, e2⟩
      refine List.ext_getElem? fun j => ?_
      by_cases hj : j < us.length
      · exact e1 j (by omega)
      · rw [List.getElem?_eq_none_iff.mpr (by omega), List.getElem?_eq_none_iff.mpr (by omega)]
    · intro e
      subst e
      exact ⟨fun _ _ => rfl, by omega⟩] at z
theorem TupOf.eq {x y : List Key} {a b : Addr} (p : TupOf s.heap x a) (q : TupOf s.heap y b) (hu : A.units < cLine) : SeqAt.EqAt A s (.ref a) (.ref b) (decide (x = y)) := by
  by_cases hab : a = b
  · subst hab
    cases p.inj q
    rw [decide_eq_true rfl]
    exact SeqAt.EqAt.same _
  · obtain ⟨us, t1, r1⟩ := p
    obtain ⟨vs, t2, r2⟩ := q
    have l1 := r1.length
    have l2 := r2.length
    rw [List.length_map] at l1 l2
    refine SeqAt.EqAt.of_refs hab (tups_rc t1 t2 l1 l2 hu fun j k k' u v e1 e2 e3 e4 => ?_)
    obtain ⟨u', z1, z2⟩ := r1.get (i := j) (by rw [List.getElem?_map, e1]; rfl)
    obtain ⟨v', z3, z4⟩ := r2.get (i := j) (by rw [List.getElem?_map, e2]; rfl)
    rw [e3] at z1
    cases z1
    rw [e4] at z3
    cases z3
    exact key_eq z2 z4
theorem ItOf.eq {x y : K2} {u v : Value} (p : ItOf s.heap x u) (q : ItOf s.heap y v) (hu : A.units < cLine) : SeqAt.EqAt A s u v (decide (x = y)) := by
  cases x with
  | inl k =>
    cases y with
    | inl k' =>
      have z := key_eq (A := A) (s := s) p q
      rwa [show decide (k = k') = decide ((Sum.inl k : K2) = .inl k') by rw [Bool.eq_iff_iff]; simp] at z
    | inr ks =>
      obtain ⟨b, rfl, vs, t2, r2⟩ := q
      rw [show decide ((Sum.inl k : K2) = .inr ks) = false by simp]
      cases k with
      | inl i => obtain ⟨t, rfl⟩ := p; exact SeqAt.EqAt.int_tuple i t t2 hu
      | inr i => obtain ⟨t, rfl⟩ := p; exact SeqAt.EqAt.str_tuple i t t2 hu
  | inr ks =>
    cases y with
    | inl k =>
      obtain ⟨b, rfl, vs, t2, r2⟩ := p
      rw [show decide ((Sum.inr ks : K2) = .inl k) = false by simp]
      cases k with
      | inl i => obtain ⟨t, rfl⟩ := q; exact SeqAt.EqAt.tuple_int i t t2 hu
      | inr i => obtain ⟨t, rfl⟩ := q; exact SeqAt.EqAt.tuple_str i t t2 hu
    | inr ks' =>
      obtain ⟨a, rfl, t1⟩ := p
      obtain ⟨b, rfl, t2⟩ := q
      have z := TupOf.eq (A := A) t1 t2 hu
      rwa [show decide (ks = ks') = decide ((Sum.inr ks : K2) = .inr ks') by rw [Bool.eq_iff_iff]; simp] at z
theorem pairs_get {α β : Type} {F : α → β → Prop} : ∀ {l : List α} {m : List β} {i : Nat} {x : α} {y : β}, Paired F l m → l[i]? = some x → m[i]? = some y → F x y
  | _, _, 0, _, _, .cons r t, h1, h2 => by simp at h1 h2; subst h1 h2; exact r
  | _, _, i + 1, _, _, .cons r t, h1, h2 => pairs_get (i := i) t (by simpa using h1) (by simpa using h2)
  | _, _, _, _, _, .nil, h1, _ => by simp at h1
theorem Tup2.eq {x y : List K2} {a b : Addr} (p : Tup2 s.heap x a) (q : Tup2 s.heap y b) (hu : A.units + 1 < cLine) : SeqAt.EqAt A s (.ref a) (.ref b) (decide (x = y)) := by
  by_cases hab : a = b
  · subst hab
    cases p.inj q
    rw [decide_eq_true rfl]
    exact SeqAt.EqAt.same _
  · obtain ⟨us, t1, r1⟩ := p
    obtain ⟨vs, t2, r2⟩ := q
    exact SeqAt.EqAt.of_refs hab (tups_rc t1 t2 (Paired.length r1) (Paired.length r2) (by omega) fun j k k' u v e1 e2 e3 e4 => ItOf.eq (pairs_get r1 e1 e3) (pairs_get r2 e2 e4) (show A.units + 1 < cLine from hu))
theorem quiet_tup {n : Nat} {a : Addr} {us : List Value} {Q : Bool → Shared → Prop} (t : s.heap.IsTuple a us.toArray) (hi : ∀ v ∈ us, ∀ Q' : Bool → Shared → Prop, Q' true s → wpAny (model P w) A (eqIsQuiet n v) Q' E s) (q : Q true s) : wpAny (model P w) A (eqIsQuiet (n + 1) (.ref a)) Q E s := by
  obtain ⟨o, ho, hc, m, hd⟩ := t
  have hT : s.TypeIs (.ref a) "tuple" := ⟨o, ho, hc⟩
  unfold eqIsQuiet
  refine wpAny_bind (wpAny_specialOf hT F.slot_tuple_eq.lookup ?_)
  show wpAny _ _ (isInstance (.ref a) (.type "tuple") >>= _) _ _ s
  refine wpAny_bind (wpAny_isInstance hT isSubtype_tuple_tuple ?_)
  simp only [Bool.not_true, Bool.false_eq_true, if_false]
  refine wpAny_bind (wpAny_seqItems ho hd (wpAny_bind ?_))
  show wpAny _ _ (forIn us.toArray _ _) _ _ s
  rw [← Array.forIn_toList]
  refine wpAny_forIn_list _ (fun r b t => b.1 = none ∧ t = s ∧ ∀ v ∈ r, v ∈ us) _ ?_ ?_ _ _ ⟨rfl, rfl, fun v hv => by simpa using hv⟩
  · rintro v r b t ⟨hb, rfl, hall⟩
    refine wpAny_bind (hi v (hall v (by simp)) _ ?_)
    simp only [Bool.not_true, Bool.false_eq_true, if_false]
    exact wpAny_pure ⟨rfl, rfl, fun u hu' => hall u (List.mem_cons_of_mem _ hu')⟩
  · rintro ⟨r1, r2⟩ t ⟨hr, rfl, _⟩
    simp only at hr
    subst hr
    exact wpAny_pure q
theorem paired_mem {α β : Type} {F : α → β → Prop} : ∀ {l : List α} {m : List β} {y : β}, Paired F l m → y ∈ m → ∃ x ∈ l, F x y
  | _, _, _, .nil, h => by simp at h
  | _, _, _, .cons r t, h => by
    rcases List.mem_cons.mp h with z | z
    · subst z; exact ⟨_, by simp, r⟩
    · obtain ⟨x, hx, hf⟩ := paired_mem t z
      exact ⟨x, List.mem_cons_of_mem _ hx, hf⟩
theorem rel_byValue {k : Key} {v : Value} (r : RelV (kV k) v) : carriedByValue v = true := by
  cases k <;> (obtain ⟨t, rfl⟩ := r; rfl)
theorem Tup2.quiet {ks : List K2} {a : Addr} {Q : Bool → Shared → Prop} (x : Tup2 s.heap ks a) (q : Q true s) : wpAny (model P w) A (eqIsQuiet 8 (.ref a)) Q E s := by
  obtain ⟨us, t1, r1⟩ := x
  refine quiet_tup t1 (fun v hv Q' q' => ?_) q
  obtain ⟨k, _, hk⟩ := paired_mem r1 hv
  cases k with
  | inl k => rw [eqIsQuiet_byValue _ (rel_byValue hk)]; exact wpAny_pure q'
  | inr ks' =>
    obtain ⟨b, rfl, vs, t2, r2⟩ := hk
    refine quiet_tup t2 (fun u hu Q2 q2 => ?_) q'
    obtain ⟨k', _, hk'⟩ := paired_mem r2 hu
    have : ∃ c : Key, RelV (kV c) u := by
      obtain ⟨i, hl, rfl⟩ := List.getElem_of_mem hu
      have hl' : i < ks'.length := by have := r2.length; rw [List.length_map] at this; omega
      obtain ⟨u', z1, z2⟩ := r2.get (i := i) (x := kV ks'[i]) (by rw [List.getElem?_map, List.getElem?_eq_getElem hl']; rfl)
      rw [List.getElem?_eq_getElem hl] at z1
      cases z1
      exact ⟨_, z2⟩
    obtain ⟨c, hc⟩ := this
    rw [eqIsQuiet_byValue _ (rel_byValue hc)]
    exact wpAny_pure q2
end
def kind2 (P : Program) (w : World) : HeapKind P w (List K2) where
  is := Tup2
  hash := hash2 P w
  draws := draws2
  room := fun A => A.units + 1 < cLine
  inj := fun p q => p.inj q
  keeps := fun x e hd sb => x.keeps e hd sb
  pyHash := fun hu x q => hash_2 hu x q
  eqBool := fun hu x y q => (Tup2.eq x y hu) _ _ _ _ q
  quiet := fun x q => x.quiet q
def dicO (P : Program) (w : World) (a : Addr) (xs : List (List K2 × Addr × Value)) : HO := .ext fun h => (a == sysModules) = false ∧ ∃ o es ep, h.get? a = some o ∧ o.ExactDict ∧ o.data = .dict es ep ∧ es.toList = xs.map (entryOfKey (kind2 P w)) ∧ (xs.map (·.1)).Nodup
theorem dicO_ok {P : Program} {w : World} {H : Hp} {h : Heap} {a : Addr} {xs : List (List K2 × Addr × Value)} (x : (a == sysModules) = false ∧ ∃ o es ep, h.get? a = some o ∧ o.ExactDict ∧ o.data = .dict es ep ∧ es.toList = xs.map (entryOfKey (kind2 P w)) ∧ (xs.map (·.1)).Nodup) : ObjOk P w H h a (dicO P w a xs) := by
  refine ⟨x, ?_, fun h1 h2 ⟨e0, o, es, ep, e, r⟩ k => ⟨e0, o, es, ep, k o e, r⟩⟩
  obtain ⟨_, o, _, _, e, _⟩ := x
  exact ⟨o, e⟩
theorem sizeOf_sys {X : Cx} {pins : List (Addr × Obj)} {σ : St} {H : Hp} {s : Shared} (I : Inv X pins σ H s) : sysModules < s.heap.objs.size := by
  have h : mainGlobals < s.heap.objs.size := (I.mod.glob.keeps I.bk).lt
  exact Nat.lt_trans (by decide) h
end L2
set_option Elab.async false
set_option linter.all false
set_option maxRecDepth 100000
set_option maxHeartbeats 4000000
namespace L3
open PySem PySem.Spec PySem.Calls PyProof.Rows L2
def keyD : Key → D
  | .inl i => .int i
  | .inr x => .str x
def k2D : K2 → D
  | .inl k => keyD k
  | .inr ks => .tup (ks.map keyD)
def kD (ks : List K2) : D := .tup (ks.map k2D)
theorem is_key {K : PySem.W.Frag} {F : Hp} {k : Key} {v : V} (h : Is K F (keyD k) v) : v = kV k := by
  cases k with
  | inl i => exact isI h
  | inr x => exact isS h
theorem is_keys {K : PySem.W.Frag} {F : Hp} : ∀ {ks : List Key} {xs : List V}, IsL K F (ks.map keyD) xs → xs = ks.map kV
  | [], _, h => by simp only [List.map_nil, IsL] at h; subst h; rfl
  | k :: ks, _, h => by
    simp only [List.map_cons, IsL] at h
    obtain ⟨x, r, rfl, h1, h2⟩ := h
    rw [is_key h1, is_keys h2]; rfl
section
variable {X : Cx} {pins : List (Addr × Obj)} {σ : L2.St} {H : Hp} {s : Shared}
theorem it_at (I : Inv X pins σ H s) {k : K2} {x : V} {u : Value} (h : Is X.K H (k2D k) x) (r : RelV x u) : ItOf s.heap k u := by
  cases k with
  | inl k =>
    rw [is_key h] at r
    exact r
  | inr ks =>
    obtain ⟨a, xs, rfl, s1, il⟩ := isT h
    obtain ⟨us, rv, t1, _⟩ := I.tuple s1
    rw [is_keys il] at rv
    exact ⟨a, r, us, t1, rv⟩
theorem its_at (I : Inv X pins σ H s) : ∀ {ks : List K2} {xs : List V} {us : List Value}, IsL X.K H (ks.map k2D) xs → Vals xs us → Paired (ItOf s.heap) ks us
  | [], _, _, h, r => by
    simp only [List.map_nil, IsL] at h
    subst h
    cases r
    exact .nil
  | k :: ks, _, _, h, r => by
    simp only [List.map_cons, IsL] at h
    obtain ⟨x, r', rfl, h1, h2⟩ := h
    cases r with
    | cons a b => exact .cons (it_at I h1 a) (its_at I h2 b)
theorem key_at (I : Inv X pins σ H s) {ks : List K2} {a : Addr} (h : Is X.K H (kD ks) (.ref a)) : Tup2 s.heap ks a := by
  obtain ⟨a', xs, e, s1, il⟩ := isT h
  cases e
  obtain ⟨us, rv, t1, _⟩ := I.tuple s1
  exact ⟨us, t1, its_at I il rv⟩
end
abbrev DP (K : PySem.W.Frag) (F : Hp) : List (List K2 × D) → List (List K2 × Addr × Value) → Prop := Paired fun p q => p.1 = q.1 ∧ Is K F (kD q.1) (.ref q.2.1) ∧ ∃ v, RelV v q.2.2 ∧ Is K F p.2 v
def atD (kvs : List (List K2 × D)) (k : List K2) : Option D := (kvs.find? fun p => decide (p.1 = k)).map (·.2)
def putD (kvs : List (List K2 × D)) (k : List K2) (d : D) : List (List K2 × D) := if (atD kvs k).isSome = true then kvs.map fun p => if p.1 = k then (p.1, d) else p else kvs ++ [(k, d)]
theorem DP.mono {K : PySem.W.Frag} {F F' : Hp} {kvs : List (List K2 × D)} {xs : List (List K2 × Addr × Value)} (h : DP K F kvs xs) (e : Same F F') : DP K F' kvs xs := Paired.mapP h fun p q ⟨h1, h2, v, r, i⟩ => ⟨h1, h2.mono e, v, r, i.mono e⟩
theorem DP.at {K : PySem.W.Frag} {F : Hp} {k : List K2} : ∀ {kvs : List (List K2 × D)} {xs : List (List K2 × Addr × Value)}, DP K F kvs xs → (atKey xs k = none ∧ atD kvs k = none) ∨ ∃ p d v, atKey xs k = some p ∧ atD kvs k = some d ∧ RelV v p.2 ∧ Is K F d v
  | _, _, .nil => .inl ⟨rfl, rfl⟩
  | _, _, @Paired.cons _ _ _ p q ps qs ⟨h1, h2, v, r, i⟩ t => by
    by_cases e : p.1 = k
    · have e' : q.1 = k := h1.symm.trans e
      exact .inr ⟨q.2, p.2, v, by simp [atKey, List.find?_cons, e'], by simp [atD, List.find?_cons, e], r, i⟩
    · have e' : ¬ q.1 = k := fun z => e (h1.trans z)
      have ih := DP.at (k := k) t
      rwa [show atKey qs k = atKey (q :: qs) k by simp [atKey, List.find?_cons, e'], show atD ps k = atD (p :: ps) k by simp [atD, List.find?_cons, e]] at ih
theorem DP.some_eq {K : PySem.W.Frag} {F : Hp} {k : List K2} {kvs : List (List K2 × D)} {xs : List (List K2 × Addr × Value)} (h : DP K F kvs xs) : (atKey xs k).isSome = (atD kvs k).isSome := by
  rcases h.at (k := k) with ⟨e1, e2⟩ | ⟨p, d, v, e1, e2, _⟩
  · rw [e1, e2]; rfl
  · rw [e1, e2]; rfl
theorem DP.put {K : PySem.W.Frag} {F : Hp} {k : List K2} {kvs : List (List K2 × D)} {xs : List (List K2 × Addr × Value)} {a : Addr} {d : D} {v : V} {u : Value} (h : DP K F kvs xs) (hk : Is K F (kD k) (.ref a)) (r : RelV v u) (i : Is K F d v) : DP K F (putD kvs k d) (storedH xs k a u) := by
  unfold putD storedH
  rw [h.some_eq]
  split
  · have go : ∀ {ps : List (List K2 × D)} {qs : List (List K2 × Addr × Value)}, DP K F ps qs → DP K F (ps.map fun p => if p.1 = k then (p.1, d) else p) (qs.map (putAt k u)) := by
      intro ps qs t
      induction t with
      | nil => exact .nil
      | @cons p q ps qs hh t ih =>
        obtain ⟨h1, h2, v', r', i'⟩ := hh
        rw [List.map_cons, List.map_cons]
        refine .cons ?_ ih
        unfold putAt
        by_cases e : p.1 = k
        · rw [if_pos e, if_pos (h1.symm.trans e)]
          exact ⟨h1, h2, v, r, i⟩
        · rw [if_neg e, if_neg fun z => e (h1.trans z)]
          exact ⟨h1, h2, v', r', i'⟩
    exact go h
  · exact Paired.snoc h ⟨rfl, hk, v, r, i⟩
def oDic (P : Program) (w : World) (K : PySem.W.Frag) (a : Addr) (kvs : List (List K2 × D)) : Ow := fun F o => ∃ xs, o = dicO P w a xs ∧ DP K F kvs xs
section
variable {X : Cx} {pins : List (Addr × Obj)} {σ : L2.St} {H : Hp} {s : Shared} {l : Addr} {xs : List (List K2 × Addr × Value)} {kvs : List (List K2 × D)}
theorem dic_of (I : Inv X pins σ H s) (e : H l = some (dicO X.prog X.w l xs)) (h : DP X.K H kvs xs) : (l == sysModules) = false ∧ s.heap.DictOfH (kind2 X.prog X.w) l xs := by
  obtain ⟨⟨h0, o, es, ep, h1, h2, h3, h4, h5⟩, _⟩ := (show ObjOk X.prog X.w H s.heap l (dicO X.prog X.w l xs) from I.hok l _ e)
  refine ⟨h0, o, es, ep, h1, h2, h3, h4, fun x hx => ?_, h5⟩
  obtain ⟨p, _, hp⟩ := paired_mem h hx
  exact key_at I hp.2.1
end
def rInD (X : Cx) (neg : Bool) : R2 := fun x y H Q => ∃ b l ks kvs xs, x = .ref b ∧ Is X.K H (kD ks) x ∧ y = .ref l ∧ H l = some (dicO X.prog X.w l xs) ∧ DP X.K H kvs xs ∧ Q (.bl (if neg then !(atD kvs ks).isSome else (atD kvs ks).isSome)) H
def rSetD (X : Cx) : TSet := fun o i v H Q => ∃ l b ks kvs xs d, o = .ref l ∧ i = .ref b ∧ Is X.K H (kD ks) i ∧ H l = some (dicO X.prog X.w l xs) ∧ DP X.K H kvs xs ∧ kvs.length < sizeLine ∧ Is X.K H d v ∧ ∀ u, RelV v u → Q (upd H l (dicO X.prog X.w l (storedH xs ks b u)))
section
variable {X : Cx}
theorem op_inD (hu : X.A.units + 64 < cLine) : OpR X (compareOp .In) (rInD X false) := by
  rintro pins s σ H x y v u Q I rx ry ⟨b, l, ks, kvs, xs, rfl, hk, rfl, hl, dp, q⟩
  cases rx
  cases ry
  obtain ⟨h0, dd⟩ := dic_of I hl dp
  refine wpAny_in_heap (show X.A.units + 1 + 1 < cLine by omega) (key_at I hk) h0 dd ?_
  rw [dp.some_eq]
  exact ⟨.bl _, H, I.tok _, rfl, q⟩
theorem set_dic (hu : X.A.units + 64 < cLine) : PSet X (rSetD X) := by
  rintro pins s σ H o i v ov iv u Q I ro ri rv ⟨l, b, ks, kvs, xs, d, rfl, rfl, hk, hl, dp, hz, hd, q⟩
  cases ro
  cases ri
  obtain ⟨h0, dd⟩ := dic_of I hl dp
  have hx : xs.length ≤ sizeLine := by rw [← Paired.length dp]; omega
  refine wpAny_setItem_heap (hsz := hx) (show X.A.units + 1 + 1 < cLine by omega) (key_at I hk) dd fun h' dd' hs => ⟨_, ?_, q u rv⟩
  obtain ⟨o', es, ep, z1, z2, z3, z4, _, z5⟩ := dd'
  exact I.write (x := l) (e := l) (by rw [hl]; exact True.intro) (.inl rfl) (fun c q hb z => (hs.2 c hb).trans z) ⟨o', z1⟩ (dicO_ok ⟨h0, o', es, ep, z1, z2, z3, z4, z5⟩)
theorem pe_dnew2 {pos : Pos} : PE X (.Dict [] [] pos) (fun _ H Q => ∀ p, H p = none → Q (.ref p) (upd H p (dicO X.prog X.w p []))) := fun pins s σ H Q I h =>
  wpAny_Dict_empty ⟨.ref s.heap.objs.size, _, I.laid (a := s.heap.objs.size) (o := dicO X.prog X.w s.heap.objs.size []) (t' := s.toks) (fun _ _ q => Heap.get?_push_of_some _ q) (Nat.le_refl _)
    (dicO_ok ⟨beq_eq_false_iff_ne.mpr (Ne.symm (Nat.ne_of_lt (sizeOf_sys I))), _, #[], 0, Heap.get?_push_size _ rfl, ⟨rfl, rfl, rfl⟩, rfl, rfl, List.nodup_nil⟩), rfl, h _ (I.hok.fresh (Nat.le_refl _))⟩
end
section
variable {X : Cx} {B : Bs} {Γ : Ga} {Ω : Om} {E : E3} {rest : List Stmt} {a b e o i : Expr} {pos pos' spos tpos : Pos} {R : D → Om → Prop} {RT : Bool → Om → Prop} {x : Str}
theorem v_dnew (r : ∀ l, R (.raw (.ref l)) ((l, oDic X.prog X.w X.K l []) :: Ω)) : V3 X B (.Dict [] [] pos) Γ Ω R := fun F σ H S pins s I =>
  pe_dnew2 pins s σ H _ I fun l hl => ⟨.raw (.ref l), _, F, S.new (Pur.layOwn S.fh hl) hl (S.fh.free hl) upd_same (fun F2 _ => ⟨[], rfl, .nil⟩), Same.refl _, i_raw F, r l⟩
theorem inD_own {neg : Bool} {F : Hp} {σ : L2.St} {H : Hp} {ks : List K2} {l : Addr} {kvs : List (List K2 × D)} {x y : V} {Q : VK} (S : Sat X.K B Γ Ω F σ H) (i1 : Is X.K F (kD ks) x) (i2 : Is X.K F (.raw (.ref l)) y) (m : (l, oDic X.prog X.w X.K l kvs) ∈ Ω)
    (q : Q (.bl (if neg then !(atD kvs ks).isSome else (atD kvs ks).isSome)) H) : rInD X neg x y H Q := by
  cases isR i2
  obtain ⟨fa, o', ha, ho⟩ := S.own _ m
  obtain ⟨xs, rfl, dp⟩ := ho F (Same.refl _)
  obtain ⟨c, _, rfl, _⟩ := isT i1
  exact ⟨c, l, ks, kvs, xs, rfl, i1.mono S.fh, rfl, ha, dp.mono S.fh, q⟩
theorem vt_inD (hu : X.A.units + 64 < cLine) (h : V3 X B a Γ Ω fun d Ω1 => ∃ ks, d = kD ks ∧ V3 X B b Γ Ω1 fun d' Ω2 => ∃ l kvs, d' = .raw (.ref l) ∧ (l, oDic X.prog X.w X.K l kvs) ∈ Ω2 ∧ RT (atD kvs ks).isSome Ω2)
    (hm : behindInMarks .In b = false := by first | exact nomark _ | with_unfolding_all rfl) : VT3 X B (.Compare a [.In] [b] pos) Γ Ω RT := fun F σ H S pins s I =>
  pt_cmpR (op_inD hu) pe_w pe_w hm pins s σ H _ I ((h F σ H S).mono fun x H1 ⟨d, Ω1, F1, S1, f1, i1, ks, e1, h1⟩ => (h1 F1 σ H1 S1).mono fun y H2 ⟨d', Ω2, F2, S2, f2, i2, l, kvs, e2, m, q⟩ => by
    subst e1 e2
    exact inD_own S2 (i1.mono f2) i2 m ⟨_, rfl, Ω2, F2, S2, f1.trans f2, q⟩)
theorem w_setD (hu : X.A.units + 64 < cLine) (h : V3 X B e Γ Ω fun d Ω1 => V3 X B o Γ Ω1 fun dq Ω2 => ∃ l, dq = .raw (.ref l) ∧ V3 X B i Γ Ω2 fun di Ω3 => ∃ ks kvs Ω4, di = kD ks ∧ Ω3.Perm ((l, oDic X.prog X.w X.K l kvs) :: Ω4) ∧ kvs.length < sizeLine ∧ W3 X B rest Γ ((l, oDic X.prog X.w X.K l (putD kvs ks d)) :: Ω4) E)
    (hs : swapsWithSole [.Subscript o i tpos] e spos.line X.env = pure false := by rfl) (hw : swappedStores [.Subscript o i tpos] e X.env = pure none := by rfl) (h1 : (assignEach [.Subscript o i tpos] X.env).map (·.2) = [assign (.Subscript o i tpos) X.env] := by rfl)
    (ha : ∀ v, assign (.Subscript o i tpos) X.env v = (do
      let ov ← holding [v] (eval o X.env)
      let iv ← holding [v, ov] (eval i X.env)
      standAt tpos
      holding [v, ov, iv] (setItem ov iv v)
      release [v, ov, iv] []) := by intro _; rfl) : W3 X B (.Assign [.Subscript o i tpos] e spos :: rest) Γ Ω E := fun F σ H S pins s I =>
  pss_cons (ps_asg pe_w (pg_sub pe_w pe_w (set_dic hu) ha) hs hw h1) pss_w pins s σ H _ I ((h F σ H S).mono fun v H1 ⟨d, Ω1, F1, S1, f1, i1, h1⟩ => (h1 F1 σ H1 S1).mono fun y H2 ⟨dq, Ω2, F2, S2, f2, i2, l, e2, h2⟩ => (h2 F2 σ H2 S2).mono fun z H3 ⟨di, Ω3, F3, S3, f3, i3, ks, kvs, Ω4, e3, pm, hz, h3⟩ => by
    subst e2 e3
    cases isR i2
    have S4 := S3.perm pm.symm
    obtain ⟨fa, o', ha', ho⟩ := S4.own (l, oDic X.prog X.w X.K l kvs) (by simp)
    obtain ⟨xs, rfl, dp⟩ := ho F3 (Same.refl _)
    obtain ⟨c, _, rfl, _⟩ := isT i3
    refine ⟨l, c, ks, kvs, xs, d, rfl, rfl, i3.mono S3.fh, ha', dp.mono S3.fh, hz, (i1.mono (f2.trans f3)).mono S3.fh, fun u ru => ?_⟩
    exact to_mono (f1.trans (f2.trans f3)) (h3 F3 σ _ (S4.turn fun F5 e5 => ⟨_, rfl, DP.put (dp.mono e5) (i3.mono e5) ru (i1.mono (f2.trans (f3.trans e5)))⟩)))
end
end L3
set_option Elab.async false
set_option linter.all false
set_option maxRecDepth 100000
set_option maxHeartbeats 4000000
namespace L3
open PySem PySem.Spec PySem.Calls PyProof.Rows L2
section
variable {X : Cx} {Γ : Ga} {a b c : Expr} {pos : Pos} {x y z : Str}
end
section
variable {P : Program} {w : World} {K : PySem.W.Frag} {mg : Str → Option Value} {base : Heap} {x q : Str} {st : Stmt} {N ps : List Str} {k n : Nat} {Cc : Addr}
end
end L3
set_option Elab.async false
set_option linter.all false
set_option maxRecDepth 100000
set_option maxHeartbeats 4000000
namespace L2
open PySem PySem.Spec PySem.Calls PyProof.Rows
end L2
namespace L3
open PySem PySem.Spec PySem.Calls PyProof.Rows L2
section
variable {X : Cx} {B : Bs} {Γ : Ga} {Ω : Om} {E : E3} {rest : List Stmt} {a b e : Expr} {es : List Expr} {pos p : Pos} {ds gs : List D} {x : Str} {k n : Nat} {R : D → Om → Prop}
end
end L3
set_option Elab.async false
set_option linter.all false
set_option maxRecDepth 100000
set_option maxHeartbeats 4000000
namespace L3
open PySem PySem.Spec PySem.Calls PyProof.Rows L2
end L3
set_option Elab.async false
set_option linter.all false
set_option maxRecDepth 100000
set_option maxHeartbeats 4000000
namespace L3
open PySem
def lt (i : Nat) : Nat := if i < 26 then 97 + i else 65 + (i - 26)
def letS : Str := "abcdefghijklmnopqrstuvwxyzABCDEFGHIJKLMNOPQRSTUVWXYZ"
theorem letS_get : ∀ i : Fin 52, letS.cps.toList[i.val]? = some (lt i.val) := by decide +kernel
def isLet (n : Nat) : Bool := (decide (97 ≤ n) && decide (n ≤ 122)) || (decide (65 ≤ n) && decide (n ≤ 90))
theorem lt_let {i : Nat} (h : i < 52) : isLet (lt i) = true := by
  unfold lt isLet
  split <;> simp <;> omega
theorem lt_inj {i j : Nat} (hi : i < 52) (hj : j < 52) (h : lt i = lt j) : i = j := by
  unfold lt at h
  split at h <;> split at h <;> omega
def IsSym (x : Str) : Prop := 1 ≤ x.cps.size ∧ x.cps.size ≤ 8 ∧ ∀ c ∈ x.cps.toList, isLet c = true
def szC (c : Int) : Nat := (1 + c % 8).toNat
def atC (c : Int) : Nat := (c / 8 % (1 + c % 8)).toNat
def bsC (c : Int) : Nat := (c / 64 % 52).toNat
def stp (c : Int) (k p : Nat) : Nat := bsC c + 7 * p + if p = atC c then k else 0
def symL (c : Int) (k n : Nat) : List Nat := (List.range n).map fun p => lt (stp c k p % 52)
def symS (c : Int) (k : Nat) : Str := ⟨(symL c k (szC c)).toArray⟩
theorem szC_in (c : Int) : 1 ≤ szC c ∧ szC c ≤ 8 := by unfold szC; omega
theorem szC_eq (c : Int) : ((szC c : Nat) : Int) = 1 + c % 8 := by unfold szC; omega
theorem atC_lt (c : Int) : atC c < szC c := by
  have h : 0 < 1 + c % 8 := by omega
  have h1 := Int.emod_lt_of_pos (c / 8) h
  have h2 := Int.emod_nonneg (c / 8) (show 1 + c % 8 ≠ 0 by omega)
  unfold atC szC
  omega
theorem atC_eq (c : Int) : ((atC c : Nat) : Int) = c / 8 % (1 + c % 8) := by
  have h2 := Int.emod_nonneg (c / 8) (show 1 + c % 8 ≠ 0 by omega)
  unfold atC
  omega
theorem bsC_eq (c : Int) : ((bsC c : Nat) : Int) = c / 64 % 52 := by unfold bsC; omega
theorem symL_len {c : Int} {k n : Nat} : (symL c k n).length = n := by unfold symL; simp
theorem symL_succ {c : Int} {k n : Nat} : symL c k (n + 1) = symL c k n ++ [lt (stp c k n % 52)] := by unfold symL; rw [List.range_succ, List.map_append]; rfl
theorem sym_is (c : Int) (k : Nat) : IsSym (symS c k) := by
  have := szC_in c
  refine ⟨?_, ?_, fun x hx => ?_⟩
  · unfold symS; simp [symL_len]; omega
  · unfold symS; simp [symL_len]; omega
  · unfold symS symL at hx
    simp only [List.mem_map, List.mem_range] at hx
    obtain ⟨p, _, rfl⟩ := hx
    exact lt_let (Nat.mod_lt _ (by decide))
theorem sym_inj {c : Int} {j k : Nat} (hj : j < 52) (hk : k < 52) (h : symS c j = symS c k) : j = k := by
  have e : symL c j (szC c) = symL c k (szC c) := by
    unfold symS at h
    injection h with h
    simpa using h
  have ha := atC_lt c
  have e2 : (symL c j (szC c))[atC c]? = (symL c k (szC c))[atC c]? := by rw [e]
  unfold symL at e2
  rw [List.getElem?_map, List.getElem?_map, List.getElem?_range ha] at e2
  simp only [Option.map_some, Option.some.injEq] at e2
  have e3 := lt_inj (Nat.mod_lt _ (by decide)) (Nat.mod_lt _ (by decide)) e2
  unfold stp at e3
  rw [if_pos rfl, if_pos rfl] at e3
  omega
abbrev Rule := Str × List Str × Rat
def addHead (acc : List Str) (r : Rule) : List Str := if r.1 ∈ acc then acc else acc ++ [r.1]
def firsts (rs : List Rule) : List Str := rs.foldl addHead []
def addIf (h : Str) (t : Rat) (r : Rule) : Rat := if r.1 = h then t + r.2.2 else t
def sumOf (h : Str) (rs : List Rule) : Rat := rs.foldl (addIf h) 0
inductive Live (hs : List Str) (rs : List Rule) : Str → Prop
  | mk (r : Rule) (hr : r ∈ rs) (hb : ∀ x ∈ r.2.1, x ∈ hs → Live hs rs x) : Live hs rs r.1
def okBody (hs L b : List Str) : Bool := b.all fun x => decide (x ∈ L) || !decide (x ∈ hs)
def hasBody (rs : List Rule) (hs L : List Str) (h : Str) : Bool := rs.any fun r => decide (r.1 = h) && okBody hs L r.2.1
def stepL (hs : List Str) (rs : List Rule) (L : List Str) : List Str := hs.filter (hasBody rs hs L)
open Classical in
noncomputable def liveL (hs : List Str) (rs : List Rule) : List Str := hs.filter fun h => decide (Live hs rs h)
theorem okBody_iff {hs L b : List Str} : okBody hs L b = true ↔ ∀ x ∈ b, x ∈ hs → x ∈ L := by
  unfold okBody
  rw [List.all_eq_true]
  refine forall_congr' fun x => forall_congr' fun _ => ?_
  by_cases h1 : x ∈ L <;> by_cases h2 : x ∈ hs <;> simp [h1, h2]
theorem hasBody_iff {rs : List Rule} {hs L : List Str} {h : Str} : hasBody rs hs L h = true ↔ ∃ r ∈ rs, r.1 = h ∧ ∀ x ∈ r.2.1, x ∈ hs → x ∈ L := by
  unfold hasBody
  simp only [List.any_eq_true, Bool.and_eq_true, decide_eq_true_eq, okBody_iff]
theorem stepL_mono {hs : List Str} {rs : List Rule} {L L' : List Str} (h : ∀ x ∈ L, x ∈ L') : ∀ x ∈ stepL hs rs L, x ∈ stepL hs rs L' := fun x hx => by
  unfold stepL at hx ⊢
  rw [List.mem_filter, hasBody_iff] at hx ⊢
  obtain ⟨h1, r, hr, e, hb⟩ := hx
  exact ⟨h1, r, hr, e, fun y hy hh => h y (hb y hy hh)⟩
def Stage (hs : List Str) (rs : List Rule) (L : List Str) : Prop := (∃ p : Str → Bool, L = hs.filter p) ∧ (∀ x ∈ L, x ∈ stepL hs rs L) ∧ ∀ x ∈ L, Live hs rs x
theorem stage_nil {hs : List Str} {rs : List Rule} : Stage hs rs [] := ⟨⟨fun _ => false, by simp⟩, fun x hx => by simp at hx, fun x hx => by simp at hx⟩
theorem stage_step {hs : List Str} {rs : List Rule} {L : List Str} (h : Stage hs rs L) : Stage hs rs (stepL hs rs L) := by
  refine ⟨⟨_, rfl⟩, stepL_mono h.2.1, fun x hx => ?_⟩
  unfold stepL at hx
  rw [List.mem_filter, hasBody_iff] at hx
  obtain ⟨h1, r, hr, e, hb⟩ := hx
  subst e
  exact .mk r hr fun y hy hh => h.2.2 y (hb y hy hh)
theorem filter_le {α : Type} {p q : α → Bool} : ∀ {l : List α}, (∀ x ∈ l, p x = true → q x = true) → (l.filter p).length ≤ (l.filter q).length ∧ ((l.filter q).length ≤ (l.filter p).length → l.filter p = l.filter q)
  | [], _ => by simp
  | a :: l, h => by
    have ih := filter_le (p := p) (q := q) (l := l) fun x hx => h x (List.mem_cons_of_mem _ hx)
    have ha := h a (by simp)
    cases hp : p a with
    | true =>
      rw [List.filter_cons_of_pos hp, List.filter_cons_of_pos (ha hp), List.length_cons, List.length_cons]
      exact ⟨by omega, fun z => by rw [ih.2 (by omega)]⟩
    | false =>
      rw [List.filter_cons_of_neg (by simp [hp])]
      cases hq : q a with
      | true =>
        rw [List.filter_cons_of_pos hq, List.length_cons]
        exact ⟨by omega, fun z => by omega⟩
      | false =>
        rw [List.filter_cons_of_neg (by simp [hq])]
        exact ih
theorem stage_le {hs : List Str} {rs : List Rule} {L : List Str} (h : Stage hs rs L) : L.length ≤ (stepL hs rs L).length ∧ ((stepL hs rs L).length ≤ L.length → L = stepL hs rs L) := by
  obtain ⟨⟨p, rfl⟩, h2, _⟩ := h
  refine filter_le fun x hx hp => ?_
  have := h2 x (List.mem_filter.mpr ⟨hx, hp⟩)
  unfold stepL at this
  exact (List.mem_filter.mp this).2
open Classical in
theorem stage_end {hs : List Str} {rs : List Rule} {L : List Str} (h : Stage hs rs L) (e : (stepL hs rs L).length ≤ L.length) (hh : ∀ r ∈ rs, r.1 ∈ hs) : stepL hs rs L = liveL hs rs := by
  have e' := (stage_le h).2 e
  have all : ∀ x, Live hs rs x → x ∈ L := fun x hx => by
    induction hx with
    | mk r hr _ ih =>
      rw [e']
      unfold stepL
      rw [List.mem_filter, hasBody_iff]
      exact ⟨hh r hr, r, hr, rfl, ih⟩
  unfold liveL
  rw [← e']
  obtain ⟨⟨p, hp⟩, _, h3⟩ := h
  rw [hp] at all h3 ⊢
  refine List.filter_congr fun x hx => ?_
  rw [Bool.eq_iff_iff, decide_eq_true_eq]
  exact ⟨fun q => h3 x (List.mem_filter.mpr ⟨hx, q⟩), fun q => (List.mem_filter.mp (all x q)).2⟩
theorem mem_addHead {acc : List Str} {r : Rule} {x : Str} : x ∈ addHead acc r ↔ x ∈ acc ∨ x = r.1 := by
  unfold addHead
  split
  · rename_i h
    exact ⟨.inl, fun z => z.elim id fun e => e ▸ h⟩
  · simp
theorem mem_heads : ∀ {rs : List Rule} {acc : List Str} {x : Str}, x ∈ rs.foldl addHead acc ↔ x ∈ acc ∨ ∃ r ∈ rs, x = r.1
  | [], acc, x => by simp
  | r :: rs, acc, x => by
    rw [List.foldl_cons, mem_heads, mem_addHead]
    simp only [List.mem_cons, exists_eq_or_imp, or_assoc]
theorem mem_firsts {rs : List Rule} {x : Str} : x ∈ firsts rs ↔ x ∈ rs.map (·.1) := by
  unfold firsts
  rw [mem_heads]
  simp only [List.not_mem_nil, false_or, List.mem_map]
  exact ⟨fun ⟨r, h1, h2⟩ => ⟨r, h1, h2.symm⟩, fun ⟨r, h1, h2⟩ => ⟨r, h1, h2.symm⟩⟩
end L3
set_option Elab.async false
set_option linter.all false
set_option maxRecDepth 100000
set_option maxHeartbeats 4000000
namespace L3
open PySem PySem.Spec PySem.Calls PyProof.Rows L2
section
variable {X : Cx} {B : Bs} {Γ : Ga} {Ω : Om} {a l e : Expr} {pos p2 : Pos} {R : D → Om → Prop}
end
section
variable {X : Cx} {B : Bs} {Γ : Ga} {Ω : Om} {E : E3} {rest body : List Stmt} {e c : Expr} {pos : Pos}
theorem w_exprV (h : V3 X B e Γ Ω fun _ Ω1 => W3 X B rest Γ Ω1 E) (hs : swapsWith e none pos.line X.env = pure false := by rfl) : W3 X B (.Expr e pos :: rest) Γ Ω E := fun F σ H S pins s I =>
  pss_cons (ps_expr pe_w hs) pss_w pins s σ H _ I ((h F σ H S).mono fun v H1 ⟨d, Ω1, F1, S1, f1, i1, h1⟩ => to_mono f1 (h1 F1 σ H1 S1))
theorem W3.nx {J N : Ga → Om → Prop} {sts : List Stmt} (h : W3 X B sts Γ Ω { E with nx := J }) (i : ∀ Γ Ω, J Γ Ω → N Γ Ω) : W3 X B sts Γ Ω { E with nx := N } := fun F σ H S =>
  ends_mono (D := E3.to X.K B F { E with nx := J }) (D' := E3.to X.K B F { E with nx := N }) (fun _ _ ⟨Γ', Ω', F', S', f', n⟩ => ⟨Γ', Ω', F', S', f', i _ _ n⟩) (fun _ _ q => q) (fun _ _ q => q) (fun _ _ q => q) (h F σ H S)
theorem w_if2 {k : Bool} {a b : List Stmt} (J : Ga → Om → Prop) (hc : PT3 X Γ c k) (ht : k = true → W3 X B a Γ Ω { E with nx := J }) (hf : k = false → W3 X B b Γ Ω { E with nx := J }) (hr : ∀ Γ Ω, J Γ Ω → W3 X B rest Γ Ω E) : W3 X B (.If c a b pos :: rest) Γ Ω E :=
  w_if hc (fun h => (ht h).nx hr) fun h => (hf h).nx hr
theorem ts_is {k k' : Bool} (h : PT3 X Γ c k) (q : k = k') : PTs3 X Γ [c] k' := q ▸ ts_one h
end
def bodyD (b : List Str) : D := .tup (b.map D.str)
def ruleD (r : Rule) : D := .tup [.str r.1, bodyD r.2.1, sh r.2.2]
def strsD (xs : List Str) : List D := xs.map D.str
def rulesD (rs : List Rule) : List D := rs.map ruleD
theorem strsD_len {xs : List Str} : (strsD xs).length = xs.length := List.length_map _
theorem rulesD_len {rs : List Rule} : (rulesD rs).length = rs.length := List.length_map _
theorem strsD_get {xs : List Str} {i : Nat} {d : D} (h : (strsD xs)[i]? = some d) : ∃ x, xs[i]? = some x ∧ d = .str x := by
  unfold strsD at h
  rw [List.getElem?_map] at h
  obtain ⟨x, h1, h2⟩ := Option.map_eq_some_iff.mp h
  exact ⟨x, h1, h2.symm⟩
theorem rulesD_get {rs : List Rule} {i : Nat} {d : D} (h : (rulesD rs)[i]? = some d) : ∃ r, rs[i]? = some r ∧ d = ruleD r := by
  unfold rulesD at h
  rw [List.getElem?_map] at h
  obtain ⟨x, h1, h2⟩ := Option.map_eq_some_iff.mp h
  exact ⟨x, h1, h2.symm⟩
theorem take_get {α : Type} {l : List α} {i : Nat} {x : α} (h : l[i]? = some x) : l.take (i + 1) = l.take i ++ [x] := by
  rw [List.take_succ, h]; rfl
theorem str_inj {x y : Str} (h : D.str x = D.str y) : x = y := by injection h
theorem beq_str {x y : Str} : beqD (.str x) (.str y) = decide (x = y) := by
  by_cases h : x = y
  · subst h
    rw [beqD_refl (by rfl)]
    simp
  · rw [beqD_ne (fun z => h (str_inj z)), decide_eq_false h]
theorem in_strs {x : Str} {L : List Str} : inD (.str x) (strsD L) = decide (x ∈ L) := by
  unfold inD strsD
  rw [List.any_map, Bool.eq_iff_iff, List.any_eq_true, decide_eq_true_eq]
  constructor
  · rintro ⟨y, hy, e⟩
    have e' : beqD (.str y) (.str x) = true := e
    rw [beq_str, decide_eq_true_eq] at e'
    exact e' ▸ hy
  · intro h
    exact ⟨x, h, by show beqD (.str x) (.str x) = true; rw [beq_str]; simp⟩
theorem strs_kin {x : Str} {L : List Str} : ∀ e ∈ strsD L, kin e (.str x) = true ∧ dep e ≤ 60 := fun e he => by
  unfold strsD at he
  obtain ⟨y, _, rfl⟩ := List.mem_map.mp he
  exact ⟨rfl, Nat.zero_le _⟩
theorem solid_strs {L : Bool} : ∀ {xs : List Str}, solids L (strsD xs) = true
  | [] => rfl
  | x :: xs => by
    show (solid L (D.str x) && solids L (strsD xs)) = true
    rw [solid_strs]
    rfl
def keyR (r : Rule) : List K2 := [.inl (.inr r.1), .inr (r.2.1.map Sum.inr)]
theorem keyR_eq (r : Rule) : D.tup [.str r.1, bodyD r.2.1] = kD (keyR r) := by
  unfold kD keyR bodyD
  simp only [List.map_cons, List.map_nil, k2D, keyD, List.map_map]
  rfl
theorem inr_inj : ∀ {a b : List Str}, a.map (Sum.inr : Str → Key) = b.map Sum.inr → a = b
  | [], [], _ => rfl
  | [], _ :: _, h => by simp at h
  | _ :: _, [], h => by simp at h
  | x :: a, y :: b, h => by
    simp only [List.map_cons, List.cons.injEq, Sum.inr.injEq] at h
    rw [h.1, inr_inj h.2]
theorem keyR_inj {r s : Rule} (h : keyR r = keyR s) : (r.1, r.2.1) = (s.1, s.2.1) := by
  unfold keyR at h
  simp only [List.cons.injEq, Sum.inl.injEq, Sum.inr.injEq, and_true] at h
  rw [h.1, inr_inj h.2]
def seenD (rs : List Rule) : List (List K2 × D) := rs.map fun r => (keyR r, .bl true)
theorem seen_not {rs : List Rule} {r : Rule} (h : (r.1, r.2.1) ∉ rs.map fun r => (r.1, r.2.1)) : atD (seenD rs) (keyR r) = none := by
  unfold atD seenD
  rw [Option.map_eq_none_iff, List.find?_eq_none]
  intro p hp
  obtain ⟨q, hq, rfl⟩ := List.mem_map.mp hp
  simp only [decide_eq_true_eq]
  intro z
  exact h (List.mem_map.mpr ⟨q, hq, keyR_inj z⟩)
theorem seen_put {rs : List Rule} {r : Rule} (h : (r.1, r.2.1) ∉ rs.map fun r => (r.1, r.2.1)) : putD (seenD rs) (keyR r) (.bl true) = seenD (rs ++ [r]) := by
  unfold putD
  rw [seen_not h]
  unfold seenD
  rw [List.map_append]
  rfl
theorem nodup_take {α β : Type} {f : α → β} {l : List α} {i : Nat} {x : α} (hn : (l.map f).Nodup) (h : l[i]? = some x) : f x ∉ (l.take i).map f := fun z => by
  obtain ⟨y, hy, e⟩ := List.mem_map.mp z
  obtain ⟨j, hj, rfl⟩ := List.getElem_of_mem hy
  rw [List.length_take] at hj
  have hj1 : j < l.length := by omega
  have hi : i < l.length := (List.getElem?_eq_some_iff.mp h).1
  rw [List.getElem_take] at e
  have e1 : (l.map f)[j]? = (l.map f)[i]? := by
    rw [List.getElem?_map, List.getElem?_map, h, List.getElem?_eq_getElem hj1]
    simp [e]
  have := (List.getElem?_inj (by rw [List.length_map]; exact hj1) hn).mp e1
  omega
theorem p_chainI2 {X : Cx} {Γ : Ga} {a b c : Expr} {pos : Pos} {i j k : Int} (ha : P3 X Γ a (.int i)) (hb : P3 X Γ b (.int j)) (hc : P3 X Γ c (.int k)) (hm : lastMarks [.LtE, .LtE] [b, c] = false := by with_unfolding_all rfl) : P3 X Γ (.Compare a [.LtE, .LtE] [b, c] pos) (.bl (decide (i ≤ j) && decide (j ≤ k))) :=
  PE.of (pe_chain op_le op_le ha hb hc hm) fun σ H Q zq => by
    obtain ⟨F, fh, sl, q⟩ := zq
    refine ⟨F, fh, sl, fun v1 H1 F1 p1 i1 => ⟨F1, p1.fh, sl.mono p1.ff, fun v2 H2 F2 p2 i2 => ⟨i, j, isI i1, isI i2, decide (i ≤ j), rfl, ?_⟩⟩⟩
    cases e : decide (i ≤ j) with
    | true =>
      rw [if_pos rfl]
      exact ⟨F2, p2.fh, sl.mono (p1.ff.trans p2.ff), fun v3 H3 F3 p3 i3 => ⟨j, k, isI i2, isI i3, q _ _ _ ((p1.trans p2).trans p3) (by rw [e]; exact i_bl F3)⟩⟩
    | false =>
      rw [if_neg Bool.false_ne_true]
      exact q _ _ _ (p1.trans p2) (by rw [e]; exact i_bl F2)
open Classical in
noncomputable def isSymB (x : Str) : Bool := decide (IsSym x)
theorem isSymB_iff {x : Str} : isSymB x = true ↔ IsSym x := @decide_eq_true_iff _ (Classical.propDecidable _)
noncomputable def C_isSym : List D → D → Prop := fun ds d => ∃ x : Str, ds = [.str x] ∧ d = .bl (isSymB x) ∧ x.cps.size ≤ 100 ∧ x.cps.all (· < 128) = true
def C_letter : List D → D → Prop := fun ds d => ∃ c : Nat, ds = [.str ⟨#[c]⟩] ∧ d = .bl (isLet c)
def C_symbol : List D → D → Prop := fun ds d => ∃ x : Str, ds = [.str x] ∧ d = .non ∧ IsSym x
def RuleOk (r : Rule) : Prop := IsSym r.1 ∧ 1 ≤ r.2.1.length ∧ r.2.1.length ≤ 4 ∧ (∀ x ∈ r.2.1, IsSym x) ∧ 0 < r.2.2
def C_rule : List D → D → Prop := fun ds d => ∃ r : Rule, ds = [ruleD r] ∧ d = .non ∧ RuleOk r
def C_rules : List D → D → Prop := fun ds d => ∃ rs : List Rule, ds = [.lst (rulesD rs)] ∧ d = .non ∧ 1 ≤ rs.length ∧ rs.length ≤ 30 ∧ (∀ r ∈ rs, RuleOk r) ∧ (rs.map fun r => (r.1, r.2.1)).Nodup
def C_start : List D → D → Prop := fun ds d => ∃ (x : Str) (hs : List Str), ds = [.str x, .lst (strsD hs)] ∧ d = .non ∧ x ∈ hs
def C_sums : List D → D → Prop := fun ds d => ∃ (hs : List Str) (rs : List Rule), ds = [.lst (strsD hs), .lst (rulesD rs)] ∧ d = .non ∧ rs.length ≤ 30 ∧ (∀ h ∈ hs, sumOf h rs = 1) ∧ ∀ r ∈ rs, 0 ≤ r.2.2 ∧ Sz 1000 r.2.2
def C_heads : List D → D → Prop := fun ds d => ∃ rs : List Rule, ds = [.lst (rulesD rs)] ∧ d = .lst (strsD (firsts rs)) ∧ rs.length ≤ 30
def C_liveOf : List D → D → Prop := fun ds d => ∃ (hs : List Str) (rs : List Rule), ds = [.lst (strsD hs), .lst (rulesD rs)] ∧ d = .lst (strsD (liveL hs rs)) ∧ rs.length ≤ 30 ∧ hs.length ≤ 30 ∧ (∀ r ∈ rs, r.1 ∈ hs) ∧ ∀ r ∈ rs, r.2.1.length ≤ 4
def C_hasLive : List D → D → Prop := fun ds d => ∃ (h : Str) (rs : List Rule) (hs L : List Str), ds = [.str h, .lst (rulesD rs), .lst (strsD hs), .lst (strsD L)] ∧ d = .bl (hasBody rs hs L h) ∧ rs.length ≤ 30 ∧ ∀ r ∈ rs, r.2.1.length ≤ 4
def C_liveBody : List D → D → Prop := fun ds d => ∃ b hs L : List Str, ds = [bodyD b, .lst (strsD hs), .lst (strsD L)] ∧ d = .bl (okBody hs L b) ∧ b.length ≤ 4
def gF : List Str := ["first", "kept_rules", "kept_heads", "kept_live"]
noncomputable def gDs (st : Str) (rs : List Rule) : List D := [.str st, .lst (rulesD rs), .lst (strsD (firsts rs)), .lst (strsD (liveL (firsts rs) rs))]
noncomputable def gD (C : Addr) (st : Str) (rs : List Rule) : D := .obj C gF (gDs st rs)
structure GV (st : Str) (rs : List Rule) : Prop where
  l1 : 1 ≤ rs.length
  l2 : rs.length ≤ 30
  ok : ∀ r ∈ rs, RuleOk r
  nd : (rs.map fun r => (r.1, r.2.1)).Nodup
  st : st ∈ firsts rs
  one : ∀ h ∈ firsts rs, sumOf h rs = 1
  sz : ∀ r ∈ rs, Sz 1000 r.2.2
def C_makes : List D → List Str × List D → Prop := fun ds r => ∃ (st : Str) (rs : List Rule), ds = [.str st, .lst (rulesD rs)] ∧ r = (gF, gDs st rs) ∧ GV st rs
def C_gStart (C : Addr) : List D → D → Prop := fun ds d => ∃ (st : Str) (rs : List Rule), ds = [gD C st rs] ∧ d = .str st
def C_gRules (C : Addr) : List D → List D → Prop := fun ds d => ∃ (st : Str) (rs : List Rule), ds = [gD C st rs] ∧ d = rulesD rs
def C_gHeads (C : Addr) : List D → List D → Prop := fun ds d => ∃ (st : Str) (rs : List Rule), ds = [gD C st rs] ∧ d = strsD (firsts rs)
def C_gLive (C : Addr) : List D → List D → Prop := fun ds d => ∃ (st : Str) (rs : List Rule), ds = [gD C st rs] ∧ d = strsD (liveL (firsts rs) rs)
theorem nm_Grammar_start : ("start" : Str) ∉ gF := by decide +kernel
theorem nm_Grammar_rules : ("rules" : Str) ∉ gF := by decide +kernel
theorem nm_Grammar_heads : ("heads" : Str) ∉ gF := by decide +kernel
theorem nm_Grammar_live : ("live" : Str) ∉ gF := by decide +kernel
structure ClsG (K : PySem.W.Frag) (C : Addr) : Prop where
  c : Cls K C
  n_first : NoAttr K C "first"
  n_kept_rules : NoAttr K C "kept_rules"
  n_kept_heads : NoAttr K C "kept_heads"
  n_kept_live : NoAttr K C "kept_live"
theorem heads_len : ∀ {rs : List Rule} {acc : List Str}, (rs.foldl addHead acc).length ≤ acc.length + rs.length
  | [], acc => by simp
  | r :: rs, acc => by
    have := heads_len (rs := rs) (acc := addHead acc r)
    rw [List.foldl_cons, List.length_cons]
    have : (addHead acc r).length ≤ acc.length + 1 := by
      unfold addHead
      split
      · omega
      · rw [List.length_append]; exact Nat.le_refl _
    omega
theorem firsts_len {rs : List Rule} : (firsts rs).length ≤ rs.length := by
  have := heads_len (rs := rs) (acc := [])
  unfold firsts
  simpa using this
theorem solid_lstrs {xs : List Str} : solid true (.lst (strsD xs)) = true := by
  rw [solid, solid_strs]
  rfl
theorem leS_l {c n : Nat} {x : Str} (h : x.cps.toList = [n]) : leS x ⟨#[c]⟩ = decide (n ≤ c) := by
  unfold leS
  rw [h, Bool.eq_iff_iff]
  simp [List.cons_lt_cons_iff]
theorem leS_r {c n : Nat} {x : Str} (h : x.cps.toList = [n]) : leS ⟨#[c]⟩ x = decide (c ≤ n) := by
  unfold leS
  rw [h, Bool.eq_iff_iff]
  simp [List.cons_lt_cons_iff]
theorem let_ascii {c : Nat} (h : isLet c = true) : c < 128 := by
  unfold isLet at h
  simp at h
  omega
theorem sym_ascii {x : Str} (h : IsSym x) : x.cps.all (· < 128) = true := by
  rw [Array.all_eq_true_iff_forall_mem]
  intro c hc
  simpa using let_ascii (h.2.2 c (by simpa using hc))
theorem signs_get {x : Str} {i : Nat} {d : D} (h : (signs x)[i]? = some d) : ∃ c, x.cps.toList[i]? = some c ∧ d = .str ⟨#[c]⟩ := by
  unfold signs at h
  rw [List.getElem?_map] at h
  obtain ⟨c, h1, h2⟩ := Option.map_eq_some_iff.mp h
  exact ⟨c, h1, h2.symm⟩
theorem signs_len {x : Str} : (signs x).length = x.cps.size := by unfold signs; simp
theorem sz_sumI {t q : Rat} {i : Nat} (ht : 0 ≤ t ∧ Sz (1 + i * 1001) t) (hq : 0 ≤ q ∧ Sz 1000 q) : 0 ≤ t + q ∧ Sz (1 + (i + 1) * 1001) (t + q) := ⟨q_nn_add ht.1 hq.1, (sz_add ht.2 hq.2).mono (by omega)⟩
end L3
namespace L3
open PySem PySem.Spec PySem.Calls PyProof.Rows L2
theorem clsG_mk {K : PySem.W.Frag} {C : Addr} (pg : PySem.W.plainGet K C Str.empty = true) (hd : PySem.W.hasDictIn K C = true) (po : PySem.W.plainOver K C = true) (sa : PySem.W.findIn K (.ref C) "__setattr__" = some (some (.builtin "object.__setattr__")))
    (n1 : PySem.W.findIn K (.ref C) "first" = some none) (n2 : PySem.W.findIn K (.ref C) "kept_rules" = some none) (n3 : PySem.W.findIn K (.ref C) "kept_heads" = some none) (n4 : PySem.W.findIn K (.ref C) "kept_live" = some none) : ClsG K C := ⟨⟨pg, hd, po, sa⟩, n1, n2, n3, n4⟩
theorem globInt {K : PySem.W.Frag} {h : Heap} {mg : Str → Option Value} (X : K.In h) (G : h.Ns mainGlobals mg) {x : Str} {i : Int} {t : Tok} (a : PySem.W.nsIn K mainGlobals x = some (some (.int i t))) : GlobD K mg x (.int i) :=
  ⟨.int i, .int i t, PySem.W.mg_of X G a, ⟨t, rfl⟩, fun F => i_int F⟩
end L3
set_option Elab.async false
set_option linter.all false
set_option maxRecDepth 100000
set_option maxHeartbeats 4000000
namespace L3
open PySem PySem.Spec PySem.Calls PyProof.Rows L2
def C_symbols : List D → D → Prop := fun ds d => ∃ (c : Int) (m : Nat), ds = [.int c, .int (m : Int)] ∧ d = .lst (strsD ((List.range m).map (symS c))) ∧ m ≤ 20
end L3
namespace L3
open PySem PySem.Spec PySem.Calls PyProof.Rows L2
theorem atI_let {c : Int} {k p : Nat} (q : Int) (h : q = (stp c k p : Nat)) : atI letS.cps.toList (q % 52) = some (lt (stp c k p % 52)) := by
  have e : q % 52 = ((stp c k p % 52 : Nat) : Int) := by omega
  rw [e]
  exact atI_nat (letS_get ⟨stp c k p % 52, Nat.mod_lt _ (by decide)⟩)
end L3
namespace L3
open PySem PySem.Spec PySem.Calls PyProof.Rows L2
end L3
namespace L3
end L3
namespace L3
open PySem
theorem str_snoc {l : List Nat} {c : Nat} : (⟨l.toArray⟩ : Str) ++ ⟨#[c]⟩ = ⟨(l ++ [c]).toArray⟩ := by
  show Str.mk (l.toArray ++ #[c]) = _
  simp
end L3
namespace L3
open PySem
end L3
namespace L3
open PySem
end L3
set_option Elab.async false
set_option linter.all false
set_option maxRecDepth 100000
set_option maxHeartbeats 4000000
namespace L3
open PySem PySem.Spec PySem.Calls PyProof.Rows L2
end L3
set_option Elab.async false
set_option linter.all false
set_option maxRecDepth 100000
set_option maxHeartbeats 4000000
namespace L3
open PySem PySem.Spec PySem.Calls PyProof.Rows L2
section
variable {hs ws : List Str} {rs : List Rule} {st : Str}
end
end L3
namespace L3
open PySem PySem.Spec PySem.Calls PyProof.Rows L2
end L3
namespace L3
open PySem PySem.Spec PySem.Calls PyProof.Rows L2
end L3
namespace L3
open PySem
theorem len1 {us : List Value} (e : us.length = 1) : ∃ a, us = [a] := List.length_eq_one_iff.mp e
theorem len2 {us : List Value} (e : us.length = 2) : ∃ a b, us = [a, b] := by
  cases us with
  | nil => cases e
  | cons a r => obtain ⟨b, h⟩ := len1 (Nat.succ.inj e); exact ⟨a, b, by rw [h]⟩
theorem len3 {us : List Value} (e : us.length = 3) : ∃ a b c, us = [a, b, c] := by
  cases us with
  | nil => cases e
  | cons a r => obtain ⟨b, c, h⟩ := len2 (Nat.succ.inj e); exact ⟨a, b, c, by rw [h]⟩
theorem len4 {us : List Value} (e : us.length = 4) : ∃ a b c d, us = [a, b, c, d] := by
  cases us with
  | nil => cases e
  | cons a r => obtain ⟨b, c, d, h⟩ := len3 (Nat.succ.inj e); exact ⟨a, b, c, d, by rw [h]⟩
end L3
set_option Elab.async false
set_option linter.all false
set_option maxRecDepth 100000
set_option maxHeartbeats 4000000
namespace L3
open PySem PySem.Spec PySem.Calls PyProof.Rows L2
section
variable {X : Cx} {B : Bs} {Γ : Ga} {Ω : Om} {E : E3} {rest body : List Stmt} {e c : Expr} {pos : Pos} {x : Str} {ds es : List D} {d : D}
theorem w_extend {i : Nat} {a : Addr} {apos np ppos : Pos} (hi : X.N[i]? = some x) (hv : Vis X.env.scope x) (hΓ : Γ[i]? = some (some (.raw (.ref a)))) (he : PF3 X Γ e es) (hz : ds.length + es.length ≤ sizeLine) (h : W3 X B rest Γ ((a, oLst X.K (ds ++ es)) :: Ω) E)
    (hs : ∀ {t : TE}, PE X (.Call (.Attribute (.Name x np) "extend" apos) [e] [] ppos) t → PS X (.Expr (.Call (.Attribute (.Name x np) "extend" apos) [e] [] ppos) pos) (tDrop t) := by exact fun h => ps_expr h)
    (hd : (x == ("__debug__" : Str)) = false := by decide) (hcd : (x == ("__classdict__" : Str)) = false := by decide) (hst : starEach [e] X.env = (false, eval e X.env) :: starEach [] X.env := by rfl)
    (hp : ∀ {to : TE} {ta : TA}, PE X (.Name x np) to → PA X [e] ta → PE X (.Call (.Attribute (.Name x np) "extend" apos) [e] [] ppos) (tBM X.K "list" rExtend to ta) := by exact fun a b => pe_bm PySem.F.plainAttrs_list PySem.F.slot_list_extend PySem.F.type_list_extend mt_extend a b) :
    W3 X B (.Expr (.Call (.Attribute (.Name x np) "extend" apos) [e] [] ppos) pos :: rest) Γ ((a, oLst X.K ds) :: Ω) E := fun F σ H S pins s I => by
  obtain ⟨v, e1, e2⟩ := S.sl i _ hΓ
  cases isR e2
  obtain ⟨fa, o0, ha, ho⟩ := S.own (a, oLst X.K ds) (by simp)
  obtain ⟨xs, rfl, il⟩ := ho F (Same.refl _)
  refine pss_cons (hs (hp (pe_var hi hv hd hcd) (pa_cons he pa_nil hst))) pss_w pins s σ H _ I ⟨_, e1, .inl ⟨rfl, _, SqL.of ha⟩, F, S.fh, S.sl, fun p ys H' F' pu hp fp e' iv => ?_⟩
  have S1 := S.pur pu
  exact ⟨a, p, xs, ys, rfl, rfl, pu.hh _ _ ha, e', by rw [il.len, iv.len]; exact hz, to_mono pu.ff (h F' σ _ (S1.turn fun F2 e2 => ⟨_, rfl, (il.mono (pu.ff.trans e2)).append (iv.mono e2)⟩))⟩
end
end L3
set_option Elab.async false
set_option linter.all false
set_option maxRecDepth 100000
set_option maxHeartbeats 4000000
namespace L2
open PySem PySem.Spec PyProof.Rows
section
variable {κ : Type} [DecidableEq κ]
def valV (kvs : List (κ × V)) (k : κ) : Option V := (kvs.find? fun kv => decide (kv.1 = k)).map (·.2)
def putK (kvs : List (κ × V)) (k : κ) (v : V) : List (κ × V) :=
  if (kvs.any fun kv => decide (kv.1 = k)) = true then kvs.map (fun kv => if kv.1 = k then (kv.1, v) else kv) else kvs ++ [(k, v)]
theorem valV_pos {p : κ × V} {r : List (κ × V)} {k : κ} (e : p.1 = k) : valV (p :: r) k = some p.2 := by simp [valV, List.find?_cons, e]
theorem valV_neg {p : κ × V} {r : List (κ × V)} {k : κ} (e : ¬ p.1 = k) : valV (p :: r) k = valV r k := by simp [valV, List.find?_cons, e]
theorem valV_any (k : κ) : ∀ kvs : List (κ × V), (kvs.any fun kv => decide (kv.1 = k)) = (valV kvs k).isSome
  | [] => rfl
  | p :: r => by
    rw [List.any_cons]
    by_cases e : p.1 = k
    · simp only [valV_pos e, decide_eq_true e, Bool.true_or, Option.isSome_some]
    · rw [valV_neg e, decide_eq_false e, Bool.false_or]; exact valV_any k r
theorem length_putK (kvs : List (κ × V)) (k : κ) (v : V) : (putK kvs k v).length ≤ kvs.length + 1 := by
  unfold putK
  split
  · rw [List.length_map]; omega
  · rw [List.length_append, List.length_cons, List.length_nil]; omega
theorem RelO.isSome_eq {o : Option V} {u : Option Value} (r : RelO o u) : o.isSome = u.isSome := by
  cases o with
  | none => cases u with
    | none => rfl
    | some _ => exact (show False from r).elim
  | some _ => cases u with
    | none => exact (show False from r).elim
    | some _ => rfl
theorem RelO.getD {o : Option V} {u : Option Value} {d : V} {d' : Value} (r : RelO o u) (rd : RelV d d') : RelV (o.getD d) (u.getD d') := by
  cases o with
  | none => cases u with
    | none => exact rd
    | some _ => exact (show False from r).elim
  | some _ => cases u with
    | none => exact (show False from r).elim
    | some _ => exact r
theorem KV.val {kvs : List (κ × V)} {vs : List (κ × Value)} (r : KV kvs vs) (k : κ) : RelO (valV kvs k) (valueAt vs k) := by
  unfold KV at r
  induction r with
  | nil => exact True.intro
  | @cons p q ps qs h t ih =>
    obtain ⟨h1, h2⟩ := h
    by_cases e : p.1 = k
    · have e' : q.1 = k := h1.symm.trans e
      have b : valueAt (q :: qs) k = some q.2 := by simp [valueAt, List.find?_cons, e']
      rw [valV_pos e, b]; exact h2
    · have e' : ¬ q.1 = k := fun z => e (h1.trans z)
      have b : valueAt (q :: qs) k = valueAt qs k := by simp [valueAt, List.find?_cons, e']
      rw [valV_neg e, b]; exact ih
theorem KV.any {kvs : List (κ × V)} {vs : List (κ × Value)} (r : KV kvs vs) (k : κ) : (kvs.any fun kv => decide (kv.1 = k)) = vs.any fun kv => decide (kv.1 = k) := by
  unfold KV at r
  induction r with
  | nil => rfl
  | cons h t ih => rw [List.any_cons, List.any_cons, ih, h.1]
theorem KV.repl {kvs : List (κ × V)} {vs : List (κ × Value)} (r : KV kvs vs) (k : κ) {y : V} {u : Value} (ry : RelV y u) :
    KV (kvs.map fun kv => if kv.1 = k then (kv.1, y) else kv) (vs.map fun kv => if kv.1 = k then (kv.1, u) else kv) := by
  unfold KV at r ⊢
  induction r with
  | nil => exact .nil
  | @cons p q ps qs h t ih =>
    rw [List.map_cons, List.map_cons]
    refine .cons ?_ ih
    obtain ⟨h1, h2⟩ := h
    by_cases e : p.1 = k
    · rw [if_pos e, if_pos (h1.symm.trans e)]; exact ⟨h1, ry⟩
    · rw [if_neg e, if_neg (fun z => e (h1.trans z))]; exact ⟨h1, h2⟩
theorem KV.put {kvs : List (κ × V)} {vs : List (κ × Value)} (r : KV kvs vs) (k : κ) {y : V} {u : Value} (ry : RelV y u) : KV (putK kvs k y) (stored vs k u) := by
  unfold putK stored
  rw [r.any k]
  by_cases e : (vs.any fun kv => decide (kv.1 = k)) = true
  · rw [if_pos e, if_pos e]; exact r.repl k ry
  · rw [if_neg e, if_neg e]; exact Paired.snoc r ⟨rfl, ry⟩
theorem KV.keys {kvs : List (κ × V)} {vs : List (κ × Value)} (r : KV kvs vs) : kvs.map (·.1) = vs.map (·.1) := by
  unfold KV at r
  induction r with
  | nil => rfl
  | cons h t ih => rw [List.map_cons, List.map_cons, ih, h.1]
theorem KV.length {kvs : List (κ × V)} {vs : List (κ × Value)} (r : KV kvs vs) : kvs.length = vs.length := Paired.length r
end
abbrev KT (H : Hp) : List (List Key × V) → List (List Key × Addr × Value) → Prop := Paired fun p q => p.1 = q.1 ∧ H q.2.1 = some (.tup (p.1.map kV)) ∧ RelV p.2 q.2.2
theorem KT.val {H : Hp} {kvs : List (List Key × V)} {xs : List (List Key × Addr × Value)} (r : KT H kvs xs) (k : List Key) : RelO (valV kvs k) ((atKey xs k).map (·.2)) := by
  induction r with
  | nil => exact True.intro
  | @cons p q ps qs h t ih =>
    obtain ⟨h1, _, h2⟩ := h
    by_cases e : p.1 = k
    · have e' : q.1 = k := h1.symm.trans e
      have b : atKey (q :: qs) k = some q.2 := by simp [atKey, List.find?_cons, e']
      rw [valV_pos e, b]; exact h2
    · have e' : ¬ q.1 = k := fun z => e (h1.trans z)
      have b : atKey (q :: qs) k = atKey qs k := by simp [atKey, List.find?_cons, e']
      rw [valV_neg e, b]; exact ih
theorem KT.repl {H : Hp} {kvs : List (List Key × V)} {xs : List (List Key × Addr × Value)} (r : KT H kvs xs) (k : List Key) {y : V} {u : Value} (ry : RelV y u) :
    KT H (kvs.map fun kv => if kv.1 = k then (kv.1, y) else kv) (xs.map (putAt k u)) := by
  induction r with
  | nil => exact .nil
  | @cons p q ps qs h t ih =>
    rw [List.map_cons, List.map_cons]
    refine .cons ?_ ih
    obtain ⟨h1, h2, h3⟩ := h
    unfold putAt
    by_cases e : p.1 = k
    · rw [if_pos e, if_pos (h1.symm.trans e)]; exact ⟨h1, h2, ry⟩
    · rw [if_neg e, if_neg (fun z => e (h1.trans z))]; exact ⟨h1, h2, h3⟩
theorem KT.put {H : Hp} {kvs : List (List Key × V)} {xs : List (List Key × Addr × Value)} (r : KT H kvs xs) (k : List Key) {b : Addr} {y : V} {u : Value} (hb : H b = some (.tup (k.map kV))) (ry : RelV y u) :
    KT H (putK kvs k y) (storedH xs k b u) := by
  have e : (kvs.any fun kv => decide (kv.1 = k)) = (atKey xs k).isSome := by
    rw [valV_any, (r.val k).isSome_eq, Option.isSome_map]
  unfold putK storedH
  rw [e]
  by_cases q : (atKey xs k).isSome = true
  · rw [if_pos q, if_pos q]; exact r.repl k ry
  · rw [if_neg q, if_neg q]; exact Paired.snoc r ⟨rfl, hb, ry⟩
theorem KT.keeps {H H' : Hp} {kvs : List (List Key × V)} {xs : List (List Key × Addr × Value)} (r : KT H kvs xs) (ht : ∀ b ys, H b = some (.tup ys) → H' b = some (.tup ys)) : KT H' kvs xs :=
  Paired.mapP r fun _ _ z => ⟨z.1, ht _ _ z.2.1, z.2.2⟩
section
variable {P : Program} {w : World} {H : Hp} {h : Heap} {a : Addr}
theorem rd_of {u : HO} (ok : HOk P w H h) (e : Rd H a u) : ObjOk P w H h a u := e.ok ok
theorem dk_rd {kvs : List (Key × V)} (ok : HOk P w H h) (e : Rd H a (.dK kvs)) : kvs.length ≤ sizeLine ∧ (a == sysModules) = false ∧ ∃ vs, KV kvs vs ∧ h.DictOf (mixKind P w) a vs :=
  show ObjOk P w H h a (.dK kvs) from rd_of ok e
theorem dk_of {kvs : List (Key × V)} (ok : HOk P w H h) (e : H a = some (.dK kvs)) : kvs.length ≤ sizeLine ∧ (a == sysModules) = false ∧ ∃ vs, KV kvs vs ∧ h.DictOf (mixKind P w) a vs := dk_rd ok (.inl e)
theorem key_of {ks : List Key} (ok : HOk P w H h) (e : H a = some (.tup (ks.map kV))) : (tupleKind (mixKind P w)).is h ks a := by
  obtain ⟨_, its, r, o, h1, h2, n, h3⟩ := (show ObjOk P w H h a (.tup (ks.map kV)) from ok a _ e)
  exact ⟨o, its.toArray, n, h1, h2, h3, by simpa using items_are r⟩
theorem dt_rd {kvs : List (List Key × V)} (ok : HOk P w H h) (e : Rd H a (.dT kvs)) : kvs.length ≤ sizeLine ∧ (a == sysModules) = false ∧
    ∃ xs, KT H kvs xs ∧ h.DictOfH (tupleKind (mixKind P w)) a xs := by
  obtain ⟨z, y, xs, r, o, es, ep, h1, h2, h3, h4, h5⟩ := (show ObjOk P w H h a (.dT kvs) from rd_of ok e)
  refine ⟨z, y, xs, r, o, es, ep, h1, h2, h3, h4, fun x hx => ?_, h5⟩
  have all : ∀ {l : List (List Key × V)} {m : List (List Key × Addr × Value)}, KT H l m → ∀ x ∈ m, (tupleKind (mixKind P w)).is h x.1 x.2.1 := by
    intro l m q
    induction q with
    | nil => intro x hx; exact nomatch hx
    | @cons p q ps qs hq t ih =>
      intro x hx
      rcases List.mem_cons.mp hx with e | hx
      · subst e
        exact key_of ok (by rw [← hq.1]; exact hq.2.1)
      · exact ih x hx
  exact all r x hx
theorem dt_of {kvs : List (List Key × V)} (ok : HOk P w H h) (e : H a = some (.dT kvs)) : kvs.length ≤ sizeLine ∧ (a == sysModules) = false ∧
    ∃ xs, KT H kvs xs ∧ h.DictOfH (tupleKind (mixKind P w)) a xs := dt_rd ok (.inl e)
end
def DGet (H : Hp) (a : Addr) (y : V) (r : Option V) : Prop :=
  (∃ kvs k, Rd H a (.dK kvs) ∧ y = kV k ∧ r = valV kvs k) ∨ ∃ kvs k b, Rd H a (.dT kvs) ∧ y = .ref b ∧ H b = some (.tup (k.map kV)) ∧ r = valV kvs k
def DPut (H : Hp) (a : Addr) (y v : V) (H' : Hp) : Prop :=
  (∃ kvs k, H a = some (.dK kvs) ∧ y = kV k ∧ kvs.length < sizeLine ∧ H' = upd H a (.dK (putK kvs k v))) ∨
  ∃ kvs k b, H a = some (.dT kvs) ∧ y = .ref b ∧ H b = some (.tup (k.map kV)) ∧ kvs.length < sizeLine ∧ H' = upd H a (.dT (putK kvs k v))
theorem DPut.k {H : Hp} {a : Addr} {kvs : List (Key × V)} {k : Key} {v : V} (e : H a = some (.dK kvs)) (hl : kvs.length < sizeLine) : DPut H a (kV k) v (upd H a (.dK (putK kvs k v))) := .inl ⟨kvs, k, e, rfl, hl, rfl⟩
theorem DPut.t {H : Hp} {a b : Addr} {kvs : List (List Key × V)} {k : List Key} {v : V} (e : H a = some (.dT kvs)) (eb : H b = some (.tup (k.map kV))) (hl : kvs.length < sizeLine) :
    DPut H a (.ref b) v (upd H a (.dT (putK kvs k v))) := .inr ⟨kvs, k, b, e, rfl, eb, hl, rfl⟩
section
variable {X : Cx} {pins : List (Addr × Obj)} {σ : St} {H : Hp} {s : Shared} {a : Addr} {y v : V} {u r : Value} {o : Option V} {A : Around} {E : Value → Shared → Prop}
theorem Inv.big (I : Inv X pins σ H s) : sysModules < s.heap.objs.size := by
  have h : mainGlobals < s.heap.objs.size := (I.mod.glob.keeps I.bk).lt
  exact Nat.lt_trans (by decide) h
theorem d_getItem {Q : Value → Shared → Prop} (hu : A.units + 1 < cLine) (I : Inv X pins σ H s) (g : DGet H a y (some v)) (ry : RelV y u) (h : ∀ w' s', Inv X pins σ H s' → RelV v w' → Q w' s') :
    wpAny (model X.prog X.w) A (getItem (.ref a) u) Q E s := by
  rcases g with ⟨kvs, k, e, ey, l⟩ | ⟨kvs, k, b, e, ey, eb, l⟩
  · subst ey
    obtain ⟨z, hd, vs, rel, dd⟩ := dk_rd I.hok e
    obtain ⟨w', hw, rw'⟩ := RelO.some_of (v := v) (o := valueAt vs k) (by rw [l]; exact rel.val k)
    exact wpAny_getItem_of (kV_is ry) dd.mapOf hw (h w' _ (I.tok _) rw')
  · subst ey
    cases (show u = Value.ref b from ry)
    obtain ⟨z, hd, xs, rel, dd⟩ := dt_rd I.hok e
    obtain ⟨w', hw, rw'⟩ := RelO.some_of (v := v) (o := (atKey xs k).map (·.2)) (by rw [l]; exact rel.val k)
    obtain ⟨p, hp, hp2⟩ := Option.map_eq_some_iff.mp hw
    refine wpAny_getItem_heap (tupleKind_room_in1 hu) (key_of I.hok eb) dd hp ?_
    rw [hp2]
    exact h w' _ (I.tok _) rw'
theorem d_write {h' : Heap} {t' : Nat} {ob : HO} (I : Inv X pins σ H s) (mu : Mut (H a)) (hs : Heap.SameBut a s.heap h') (he : ∃ q, h'.get? a = some q) (new : ObjOk X.prog X.w (upd H a ob) h' a ob) :
    Inv X pins σ (upd H a ob) { s with heap := h', toks := t' } :=
  I.write (x := a) (e := a) mu (.inl rfl) (fun b q hb z => (hs.2 b hb).trans z) he new
theorem dk_new {P : Program} {w : World} {H' : Hp} {h' : Heap} {kvs : List (Key × V)} {vs : List (Key × Value)} (z : kvs.length ≤ sizeLine) (hd : (a == sysModules) = false) (rel : KV kvs vs) (dd : h'.DictOf (mixKind P w) a vs) :
    ObjOk P w H' h' a (.dK kvs) := ⟨z, hd, vs, rel, dd⟩
theorem d_setItem {H' : Hp} {Q : Unit → Shared → Prop} (hu : A.units + 1 < cLine) (I : Inv X pins σ H s) (g : DPut H a y v H') (ry : RelV y u) (rv : RelV v r) (h : ∀ s', Inv X pins σ H' s' → Q () s') :
    wpAny (model X.prog X.w) A (setItem (.ref a) u r) Q E s := by
  rcases g with ⟨kvs, k, e, ey, l, eH⟩ | ⟨kvs, k, b, e, ey, eb, l, eH⟩
  · subst ey eH
    obtain ⟨z, hd, vs, rel, dd⟩ := dk_of I.hok e
    have hz : vs.length ≤ sizeLine := by rw [← rel.length]; exact z
    have hl : (putK kvs k v).length ≤ sizeLine := by have := length_putK kvs k v; omega
    refine wpAny_setItem_pairs (hsz := hz) (kV_is ry) dd fun h' dd' hs => h _ ?_
    have he : ∃ q, h'.get? a = some q := let ⟨q, _, _, hq, _⟩ := dd'; ⟨q, hq⟩
    exact d_write I (by rw [e]; exact True.intro) hs he (dk_new hl hd (rel.put k rv) dd')
  · subst ey eH
    cases (show u = Value.ref b from ry)
    obtain ⟨z, hd, xs, rel, dd⟩ := dt_of I.hok e
    have hz : xs.length ≤ sizeLine := by rw [← Paired.length rel]; exact z
    have hl : (putK kvs k v).length ≤ sizeLine := by have := length_putK kvs k v; omega
    refine wpAny_setItem_heap (hsz := hz) (tupleKind_room_in1 hu) (key_of I.hok eb) dd fun h' dd' hs => h _ ?_
    obtain ⟨q, es, ep, hq, h2, h3, h4, _, h5⟩ := dd'
    refine d_write I (by rw [e]; exact True.intro) hs ⟨q, hq⟩ ⟨hl, hd, _, (rel.put k eb rv).keeps fun c ys ec => ?_, q, es, ep, hq, h2, h3, h4, h5⟩
    rw [upd_ne (ne_of ec e (fun z => nomatch z))]
    exact ec
end
section
variable {X : Cx} {pins : List (Addr × Obj)} {σ : St} {H : Hp} {s : Shared} {a : Addr} {kvs : List (Key × V)} {k : Key} {u : Value} {A : Around} {E : Value → Shared → Prop}
end
def NoSl (i : Expr) : Prop := ∀ ov iv, subscripted i false ov iv = operate [ov, iv] (getItem ov iv)
theorem subD_of {prog : Program} {w : World} {A : Around} {E : Value → Shared → Prop} {s : Shared} {env : Env} {value slice : Expr} {pos : Pos} {T id : String} {Q : Value → Shared → Prop}
    (hl : typeLookup (.type T) "__getitem__" = pure (some (.builtin id))) (hs : NoSl slice)
    (h : wpAny (model prog w) A (eval value env) (fun o s₁ => wpAny (model prog w) A (eval slice env) (fun i s₂ => s₂.TypeIs o T ∧ wpAny (model prog w) A (getItem o i) Q E s₂) E s₁) E s) :
    wpAny (model prog w) A (eval (.Subscript value slice pos) env) Q E s := by
  refine Subscript_ (wpAny_mono h (fun o s₁ h₁ => wpAny_mono h₁ (fun i s₂ h₂ => ?_) fun _ _ x => x) fun _ _ x => x)
  obtain ⟨hT, h₂⟩ := h₂
  unfold subscriptTail
  refine wpAny_bind ?_
  rw [getitemInPython_of_ne hT.not_modules]
  refine wpAny_bind (wpAny_specialOf hT hl ?_)
  have fin : wpAny (model prog w) A (subscripted slice false o i) (fun r s₃ => wpAny (model prog w) A (letTemporaryGo value o r >>= fun _ => pure r) Q E s₃) E s₂ := by
    rw [hs o i]
    exact wpAny_operating (wpAny_mono h₂ (fun r s₃ h₃ => wpAny_bind (wpAny_letTemporaryGo (wpAny_pure h₃))) fun _ _ x => x)
  first
    | exact wpAny_pure (wpAny_bind fin)
    | exact wpAny_bind (wpAny_pure (wpAny_bind fin))
    | exact wpAny_bind fin
theorem dict_typeIs {X : Cx} {pins : List (Addr × Obj)} {σ : St} {H : Hp} {s : Shared} {a : Addr} {y : V} {o : Option V} (I : Inv X pins σ H s) (g : DGet H a y o) : s.TypeIs (.ref a) "dict" := by
  rcases g with ⟨kvs, k, e, _, _⟩ | ⟨kvs, k, b, e, _, _, _⟩
  · obtain ⟨_, _, vs, _, dd⟩ := dk_rd I.hok e
    exact dd.typeIs
  · obtain ⟨_, _, xs, _, dd⟩ := dt_rd I.hok e
    exact dd.typeIs
def tDGet (td ty : TE) : TE := fun σ H Q => td σ H fun x H1 => ty σ H1 fun y H2 => ∃ a v, x = .ref a ∧ DGet H2 a y (some v) ∧ Q v H2
def sDPut (td ty tv : TE) : TS := fun D σ H => tv σ H fun v H1 => td σ H1 fun x H2 => ty σ H2 fun y H3 => ∃ a H4, x = .ref a ∧ DPut H3 a y v H4 ∧ D.nx σ H4
section
variable {X : Cx} {o i e value : Expr} {pos pos' tpos : Pos} {td ty tv : TE}
theorem pe_dget (hu : X.A.units + 1 < cLine) (ho : PE X o td) (hi : PE X i ty) (hs : NoSl i) : PE X (.Subscript o i pos) (tDGet td ty) := by
  intro pins s σ H Q I h
  refine subD_of PySem.F.slot_dict_getitem.lookup hs (thn (ho pins s σ H _ I h) fun u s1 ⟨x, H1, I1, rx, q1⟩ => thn (hi pins s1 σ H1 _ I1 q1) fun iv s2 ⟨y, H2, I2, ry, a, v, ex, g, q2⟩ => ?_)
  subst ex
  obtain rfl : u = Value.ref a := rx
  exact ⟨dict_typeIs I2 g, d_getItem hu I2 g ry fun w' s3 I3 rw' => ⟨v, H2, I3, rw', q2⟩⟩
theorem ps_dput (hu : X.A.units + 1 < cLine) (ho : PE X o td) (hi : PE X i ty) (hv : PE X value tv) (hs : swapsWith value (some (.Subscript o i pos')) pos.line X.env = pure false) :
    PS X (.Assign [.Subscript o i pos'] value pos) (sDPut td ty tv) := by
  intro pins s σ H D I h
  refine wpAny_Assign_Subscript (thn (hv pins s σ H _ I h) fun r s1 ⟨v, H1, I1, rv, q1⟩ => thn (ho pins s1 σ H1 _ I1 q1) fun u s2 ⟨x, H2, I2, rx, q2⟩ => thn (hi pins s2 σ H2 _ I2 q2) fun iv s3 ⟨y, H3, I3, ry, a, H4, ex, g, q3⟩ => ?_) hs
  subst ex
  obtain rfl : u = Value.ref a := rx
  exact d_setItem hu I3 g ry rv fun s4 I4 => ⟨σ, H4, I4, q3⟩
end
theorem dk_empty {P : Program} {w : World} {H : Hp} (h : Heap) (hb : sysModules < h.objs.size) : ObjOk P w H (h.push { cls := .type "dict", data := .dict #[] }) h.objs.size (.dK []) :=
  ⟨Nat.zero_le _, beq_eq_false_iff_ne.mpr (Ne.symm (Nat.ne_of_lt hb)), [], .nil, Heap.DictOf.new h⟩
theorem dt_empty {P : Program} {w : World} {H : Hp} (h : Heap) (hb : sysModules < h.objs.size) : ObjOk P w H (h.push { cls := .type "dict", data := .dict #[] }) h.objs.size (.dT []) :=
  ⟨Nat.zero_le _, beq_eq_false_iff_ne.mpr (Ne.symm (Nat.ne_of_lt hb)), [], .nil, _, #[], 0, Heap.get?_push_size _ rfl, ⟨rfl, rfl, rfl⟩, rfl, rfl, List.nodup_nil⟩
def tDNewK : TE := fun _ H Q => ∀ p, H p = none → Q (.ref p) (upd H p (.dK []))
def tDNewT : TE := fun _ H Q => ∀ p, H p = none → Q (.ref p) (upd H p (.dT []))
section
variable {X : Cx} {pos : Pos}
theorem pe_dnewK : PE X (.Dict [] [] pos) tDNewK := fun pins s σ H Q I h =>
  wpAny_Dict_empty ⟨.ref s.heap.objs.size, _, I.laid (a := s.heap.objs.size) (o := .dK []) (t' := s.toks) (fun _ _ q => Heap.get?_push_of_some _ q) (Nat.le_refl _) (dk_empty s.heap I.big), rfl, h _ (I.hok.fresh (Nat.le_refl _))⟩
theorem pe_dnewT : PE X (.Dict [] [] pos) tDNewT := fun pins s σ H Q I h =>
  wpAny_Dict_empty ⟨.ref s.heap.objs.size, _, I.laid (a := s.heap.objs.size) (o := .dT []) (t' := s.toks) (fun _ _ q => Heap.get?_push_of_some _ q) (Nat.le_refl _) (dt_empty s.heap I.big), rfl, h _ (I.hok.fresh (Nat.le_refl _))⟩
end
structure M2 (X : Cx) (o : Expr) (m : Str) (apos : Pos) (e f : Expr) (cpos : Pos) : Prop where
  base : attributeBase o m X.env (eval o X.env) = eval o X.env
  few : ((backTo cpos (starEach [e, f] X.env)).all (fun x => !x.1) && (backToKw cpos (keywordEach [] X.env)).all (fun x => x.1.isSome)
    && decide (([e, f] : List Expr).length + ([] : List Keyword).length + (if ([] : List Keyword).isEmpty then 0 else 1) < 30)) = true
  line : (apos.endLine == cpos.line) = true
  trees : backTo cpos (starEach [e, f] X.env) = [(false, eval e X.env), (false, eval f X.env)]
def IsD (H : Hp) (a : Addr) : Prop := (∃ kvs, Rd H a (.dK kvs)) ∨ ∃ kvs, Rd H a (.dT kvs)
theorem isD_at {X : Cx} {pins : List (Addr × Obj)} {σ : St} {H : Hp} {s : Shared} {a : Addr} (I : Inv X pins σ H s) (d : IsD H a) :
    s.TypeIs (.ref a) "dict" ∧ (∀ b, Value.ref a = .ref b → ∃ ob, s.heap.get? b = some ob ∧ ob.dict = none) ∧ (a == sysModules) = false := by
  rcases d with ⟨kvs, e⟩ | ⟨kvs, e⟩
  · obtain ⟨_, hd, vs, _, dd⟩ := dk_rd I.hok e
    refine ⟨dd.typeIs, fun b q => ?_, hd⟩
    cases q
    obtain ⟨ob, _, _, h1, h2, _⟩ := dd
    exact ⟨ob, h1, h2.2.1⟩
  · obtain ⟨_, hd, xs, _, dd⟩ := dt_rd I.hok e
    refine ⟨dd.typeIs, fun b q => ?_, hd⟩
    cases q
    obtain ⟨ob, _, _, h1, h2, _⟩ := dd
    exact ⟨ob, h1, h2.2.1⟩
section
variable {X : Cx} {pins : List (Addr × Obj)} {σ : St} {H : Hp} {s : Shared} {a : Addr} {y d : V} {u r : Value} {o : Option V} {A : Around} {E : Value → Shared → Prop}
theorem d_get2 {Q : Value → Shared → Prop} (hu : A.units + 1 < cLine) (I : Inv X pins σ H s) (g : DGet H a y o) (ry : RelV y u) (rd : RelV d r) (h : ∀ w' s', Inv X pins σ H s' → RelV (o.getD d) w' → Q w' s') :
    wpAny (model X.prog X.w) A (call (.builtin "dict.get") [.ref a, u, r]) Q E s := by
  rcases g with ⟨kvs, k, e, ey, l⟩ | ⟨kvs, k, b, e, ey, eb, l⟩
  · subst ey
    obtain ⟨z, hd, vs, rel, dd⟩ := dk_rd I.hok e
    refine call_meetsIn PySem.F.slot_dict_get dd.typeIs PySem.F.entry_dict_get (PySem.F.args_dict_get_3 _ _ _) (meets_dict_get_default (mixKind X.prog X.w) a (kV_is ry) hd r) ⟨_, dd.mapOf, h _ _ (I.tok _) ?_⟩
    rw [l]
    exact (rel.val k).getD rd
  · subst ey
    cases (show u = Value.ref b from ry)
    obtain ⟨z, hd, xs, rel, dd⟩ := dt_rd I.hok e
    refine call_meetsIn PySem.F.slot_dict_get dd.typeIs PySem.F.entry_dict_get (PySem.F.args_dict_get_3 _ _ _) (meetsH_dict_get_default (tupleKind (mixKind X.prog X.w)) a b hd r) ⟨tupleKind_room_in1 hu, k, xs, key_of I.hok eb, dd, h _ _ (I.tok _) ?_⟩
    rw [l]
    exact (rel.val k).getD rd
end
def tDGet2 (td ty tx : TE) : TE := fun σ H Q => td σ H fun x H1 => ∃ a, x = .ref a ∧ IsD H1 a ∧ ty σ H1 fun y H2 => tx σ H2 fun z H3 => ∃ o, DGet H3 a y o ∧ Q (o.getD z) H3
section
variable {X : Cx} {o e f : Expr} {apos cpos : Pos} {td ty tx : TE}
theorem pe_dget2 (hu : X.A.units + 1 < cLine) (ho : PE X o td) (he : PE X e ty) (hf : PE X f tx) (m : M2 X o "get" apos e f cpos) : PE X (.Call (.Attribute o "get" apos) [e, f] [] cpos) (tDGet2 td ty tx) := by
  intro pins s σ H Q I h
  refine wpAny_Call_method m.base m.few m.line PySem.F.plainAttrs_dict PySem.F.slot_dict_get PySem.F.type_dict_get (thn (ho pins s σ H _ I h) fun u s1 ⟨x, H1, I1, rx, a, ex, d, q1⟩ => ?_)
  subst ex
  obtain rfl : u = Value.ref a := rx
  obtain ⟨t1, t2, _⟩ := isD_at I1 d
  refine ⟨t1, t2, ?_⟩
  rw [m.trees]
  refine Calls.callWith_builtin rfl (Calls.evalArgs_plain (Calls.spliced_cons (thn (he pins s1 σ H1 _ I1 q1) fun iv s2 ⟨y, H2, I2, ry, q2⟩ =>
    Calls.spliced_cons (thn (hf pins s2 σ H2 _ I2 q2) fun fv s3 ⟨z, H3, I3, rz, ov, g, q3⟩ => Calls.spliced_nil ?_))))
  exact d_get2 hu I3 g ry rz fun w' s4 I4 rw' => ⟨_, H3, I4, rw', q3⟩
end
section
variable {X : Cx} {pins : List (Addr × Obj)} {σ : St} {H : Hp} {s : Shared} {a : Addr} {kvs : List (Key × V)} {A : Around} {E : Value → Shared → Prop}
end
section
variable {X : Cx} {pins : List (Addr × Obj)} {σ : St} {H : Hp} {s : Shared} {a : Addr} {y : V} {u : Value} {A : Around} {E : Value → Shared → Prop}
end
end L2
set_option Elab.async false
set_option linter.all false
set_option maxRecDepth 100000
set_option maxHeartbeats 4000000
namespace L2
open PySem PySem.Spec PySem.Calls PyProof.Rows
section
variable {X : Cx} {pins : List (Addr × Obj)} {σ : St} {H : Hp} {s : Shared} {a : Addr}
def isDic : HO → Bool
  | .dK _ => true
  | .dT _ => true
  | _ => false
theorem HOk.known {P : Program} {w : World} {h : Heap} {u : HO} {o : Obj} (ok : HOk P w H h) (e : H a = some u) (d : isDic u = true) (ho : h.get? a = some o) : HOk P w (upd H a (.frz o u)) h := fun b v q => by
  have nown : ∀ c y, H c = some (.own y) → c ≠ a := fun c y r z => by subst z; rw [e] at r; cases r; cases d
  have ntup : ∀ c xs, H c = some (.tup xs) → c ≠ a := fun c xs r z => by subst z; rw [e] at r; cases r; cases d
  have st : ∀ {b : Addr} {v : HO}, ObjOk P w H h b v → ObjOk P w (upd H a (.frz o u)) h b v := fun {b v} x => x.stay (fun _ _ _ z => z) (fun c z => by rw [upd_ne (nown c _ z)]; exact z) fun c xs z => by rw [upd_ne (ntup c _ z)]; exact z
  by_cases hb : b = a
  · subst hb
    rw [upd_same] at q
    cases q
    exact ⟨ho, st (ok _ _ e)⟩
  · rw [upd_ne hb] at q
    exact st (ok _ _ q)
theorem Inv.known {u : HO} {o : Obj} (I : Inv X pins σ H s) (e : H a = some u) (d : isDic u = true) (ho : s.heap.get? a = some o) : Inv X pins σ (upd H a (.frz o u)) s := by
  have nn : ∀ b, H b = none → upd H a (.frz o u) b = none := fun b z => by
    rw [upd_ne (fun y => by subst y; rw [e] at z; cases z)]; exact z
  refine ⟨I.ok, I.os, I.bare, ⟨I.base.keep, I.base.slot, fun b o' q n hx => nn b (I.base.free b o' q n hx), I.base.there, fun b xs q => ?_, fun b o' v q => ?_, fun b ps q => ?_⟩, I.loc, I.cell, nn _ I.free, fun x c q => nn _ (I.freeC x c q), fun p hp => ?_, I.hok.known e d ho, I.len⟩
  · have z := I.base.tups b xs q
    rw [upd_ne (fun y => by subst y; rw [e] at z; cases z; cases d)]; exact z
  · have z := I.base.frzs b o' v q
    rw [upd_ne (fun y => by subst y; rw [e] at z; cases z; cases d)]; exact z
  · obtain ⟨m, z⟩ := I.base.tbls b ps q
    exact ⟨m, by rw [upd_ne (fun y => by subst y; rw [e] at z; cases z; cases d)]; exact z⟩
  · obtain ⟨q1, q2, q3⟩ := I.pin p hp
    exact ⟨q1, nn _ q2, q3⟩
end
def Itk (a : Addr) (o : Obj) (kvs : List (Key × V)) : It :=
  ⟨fun i H => H a = some (.frz o (.dK kvs)) ∧ i < kvs.length, fun i H x H' => H' = H ∧ ∃ k v, kvs[i]? = some (k, v) ∧ x = kV k, fun i H => H a = some (.frz o (.dK kvs)) ∧ kvs.length ≤ i⟩
theorem kV_of {P : Program} {w : World} {k : Key} {u : Value} (h : (mixKind P w).is k u = true) : RelV (kV k) u := by
  cases k with
  | inl i => obtain ⟨t, e⟩ := Value.isInt_shape (k := i) (v := u) h; exact ⟨t, e⟩
  | inr x => obtain ⟨t, e⟩ := Value.isStrOf_shape (x := x) (v := u) h; exact ⟨t, e⟩
theorem dic_at {P : Program} {w : World} {H : Hp} {h : Heap} {a : Addr} {o : Obj} {kvs : List (Key × V)} {es : Array DictEntry} {ep : Nat} (ok : HOk P w H h) (e : H a = some (.frz o (.dK kvs))) (hd : o.data = .dict es ep) : ∃ vs, KV kvs vs ∧ Heap.DictAt (mixKind P w) h a vs ep ∧ (a == sysModules) = false := by
  obtain ⟨h1, z, y, vs, r, o', es', ep', q1, q2, q3, q4⟩ := (show ObjOk P w H h a (.frz o (.dK kvs)) from ok a _ e)
  rw [h1] at q1
  cases q1
  rw [hd] at q3
  cases q3
  exact ⟨vs, r, ⟨o, es, h1, q2, hd, q4⟩, y⟩
theorem turn_dict {P : Program} {w : World} {K : PySem.W.Frag} {tg : Expr} {a it : Addr} {o : Obj} {kvs : List (Key × V)} {es : Array DictEntry} {ep : Nat} (hd : o.data = .dict es ep) : Turn P w K tg (Itk a o kvs) [it] it (fun i h => h.IsKeyIter it a i kvs.length ep) where
  mem := by simp
  obj := fun i h st b hb => by
    have e : b = it := by simpa using hb
    subst e
    obtain ⟨o, e, c, d⟩ := st
    exact ⟨o, e, fun v z => by rw [d] at z; cases z⟩
  keep := fun i h h' st k => st.at fun o e => k it (by simp) o e
  item := by
    intro X hP hw hK hc i pins s σ H E I hf st hg
    subst hP hw hK
    obtain ⟨ha, hi⟩ := hg
    obtain ⟨f0, f1, f2, f3, f4, f5⟩ := hf it (by simp)
    obtain ⟨vs, r, da, _⟩ := dic_at I.hok ha hd
    have hl := r.length
    obtain ⟨p, hp⟩ : ∃ p, vs[i]? = some p := ⟨_, List.getElem?_eq_getElem (by omega)⟩
    obtain ⟨q, hq⟩ : ∃ q, kvs[i]? = some q := ⟨_, List.getElem?_eq_getElem hi⟩
    have ek : q.1 = p.1 := by
      have := congrArg (·[i]?) r.keys
      simp only [List.getElem?_map, hp, hq, Option.map_some, Option.some.injEq] at this
      exact this
    rw [hl] at st
    refine wpAny_pyNext_dict_item st da (k := p.1) (v := p.2) hp fun key h' hk st' sb => ?_
    have I1 : Inv X pins σ H { s with heap := h' } := I.turned (t' := s.toks) (fun b o hb e => (sb.2 b hb).trans e) f0 f1 f3 f4 f5
    refine ⟨key, rfl, letGo_keyiter st' ⟨kV q.1, H, I1, ?_, ⟨rfl, q.1, q.2, hq, rfl⟩, ?_, fun b hb => (hf b hb).1⟩⟩
    · rw [ek]; exact kV_of hk
    · rw [hl]; exact st'
  done := by
    intro X hP hw hK hc i pins s σ H E I hf st hg
    subst hP hw hK
    obtain ⟨ha, hi⟩ := hg
    obtain ⟨f0, f1, f2, f3, f4, f5⟩ := hf it (by simp)
    obtain ⟨vs, r, da, _⟩ := dic_at I.hok ha hd
    have hl := r.length
    rw [hl] at st
    exact wpAny_pyNext_dict_end (I.ok.hd hc) st da (List.getElem?_eq_none_iff.mpr (by omega)) fun h' eb => ⟨rfl, I.turned (t' := s.toks) (fun b o hb e => eb b o hb e) f0 f1 f3 f4 f5⟩
  self := fun _ _ _ _ _ st h => wpAny_pyIter_keyiter st h
def iDic (tl : TE) : TI := fun σ H R => tl σ H fun x H1 => ∃ a o kvs, x = .ref a ∧ H1 a = some (.frz o (.dK kvs)) ∧ R (Itk a o kvs) H1
theorem pi_dict {X : Cx} {tg l : Expr} {tl : TE} (hl : PE X l tl) : PI X tg l (iDic tl) := by
  intro pins s σ H R I h
  refine thn (hl pins s σ H _ I h) fun v s1 ⟨x, H1, I1, r1, q1⟩ => ?_
  obtain ⟨a, o, kvs, e, ha, q⟩ := q1
  subst e
  cases r1
  obtain ⟨h1, z, y, vs0, r0, o', es, ep, p1, p2, p3, p4⟩ := (show ObjOk X.prog X.w H1 s1.heap a (.frz o (.dK kvs)) from I1.hok a _ ha)
  rw [h1] at p1
  cases p1
  obtain ⟨vs, r, da, hy⟩ := dic_at I1.hok ha p3
  refine wpAny_pyIter_dict hy da ?_
  refine ⟨s1.heap.objs.size, [s1.heap.objs.size], _, _, H1, rfl, I1.kept (t' := s1.toks) fun b o e => Heap.get?_push_of_some _ e, turn_dict (a := a) (kvs := kvs) p3, ?_, fun b hb => ?_, q⟩
  · rw [r.length]
    exact ⟨_, Heap.get?_push_size _ rfl, rfl, rfl⟩
  · have e : b = s1.heap.objs.size := by simpa using hb
    subst e
    exact I1.fpOk (Nat.le_refl _) (I1.hok.fresh (Nat.le_refl _))
end L2
set_option Elab.async false
set_option linter.all false
set_option maxRecDepth 100000
set_option maxHeartbeats 4000000
namespace L3
open PySem PySem.Spec PySem.Calls PyProof.Rows L2
section
variable {κ : Type} [DecidableEq κ] {α : Type}
def vA (ks : List κ) (xs : List α) (k : κ) : Option α := ((ks.zip xs).find? fun p => decide (p.1 = k)).map (·.2)
def pK (ks : List κ) (k : κ) : List κ := if k ∈ ks then ks else ks ++ [k]
def pA (ks : List κ) (xs : List α) (k : κ) (v : α) : List α := if k ∈ ks then (ks.zip xs).map fun p => if p.1 = k then v else p.2 else xs ++ [v]
theorem valV_vA {ks : List κ} {xs : List V} {k : κ} : valV (ks.zip xs) k = vA ks xs k := rfl
theorem zip_any {k : κ} : ∀ {ks : List κ} {xs : List α}, ks.length = xs.length → ((ks.zip xs).any fun kv => decide (kv.1 = k)) = decide (k ∈ ks)
  | [], _, _ => by simp
  | q :: ks, [], h => by simp at h
  | q :: ks, x :: xs, h => by
    rw [List.zip_cons_cons, List.any_cons, zip_any (by simpa using h)]
    by_cases e : q = k
    · subst e; simp
    · have e' : ¬ k = q := fun z => e z.symm
      simp [e, e']
theorem zip_map {k : κ} {v : α} : ∀ {ks : List κ} {xs : List α}, ks.length = xs.length → (ks.zip xs).map (fun kv => if kv.1 = k then (kv.1, v) else kv) = ks.zip ((ks.zip xs).map fun p => if p.1 = k then v else p.2)
  | [], _, _ => by simp
  | q :: ks, [], h => by simp at h
  | q :: ks, x :: xs, h => by
    rw [List.zip_cons_cons, List.map_cons, List.map_cons, List.zip_cons_cons, zip_map (by simpa using h)]
    split <;> rfl
theorem zip_snoc2 {k : κ} {v : α} : ∀ {ks : List κ} {xs : List α}, ks.length = xs.length → ks.zip xs ++ [(k, v)] = (ks ++ [k]).zip (xs ++ [v])
  | [], [], _ => rfl
  | [], _ :: _, h => by simp at h
  | _ :: _, [], h => by simp at h
  | q :: ks, x :: xs, h => by rw [List.zip_cons_cons, List.cons_append, List.cons_append, List.cons_append, List.zip_cons_cons, zip_snoc2 (by simpa using h)]
theorem putK_zip {ks : List κ} {xs : List V} {k : κ} {v : V} (h : ks.length = xs.length) : putK (ks.zip xs) k v = (pK ks k).zip (pA ks xs k v) := by
  unfold putK pK pA
  rw [zip_any h]
  by_cases q : k ∈ ks
  · rw [if_pos (decide_eq_true q), if_pos q, if_pos q, zip_map h]
  · rw [if_neg (by simpa using q), if_neg q, if_neg q, zip_snoc2 h]
theorem pA_len {ks : List κ} {xs : List α} {k : κ} {v : α} (h : ks.length = xs.length) : (pK ks k).length = (pA ks xs k v).length := by
  unfold pK pA
  split
  · rw [List.length_map, List.length_zip]; omega
  · rw [List.length_append, List.length_append, h]; rfl
theorem vA_is {K : PySem.W.Frag} {F : Hp} {k : κ} : ∀ {ks : List κ} {ds : List D} {xs : List V}, IsL K F ds xs → (vA ks ds k = none ∧ vA ks xs k = none) ∨ ∃ d v, vA ks ds k = some d ∧ vA ks xs k = some v ∧ Is K F d v
  | [], _, _, _ => .inl ⟨rfl, rfl⟩
  | q :: ks, [], _, h => by
    simp only [IsL] at h
    subst h
    exact .inl ⟨rfl, rfl⟩
  | q :: ks, d :: ds, _, h => by
    simp only [IsL] at h
    obtain ⟨x, r, rfl, h1, h2⟩ := h
    unfold vA
    rw [List.zip_cons_cons, List.zip_cons_cons, List.find?_cons, List.find?_cons]
    by_cases e : q = k
    · rw [decide_eq_true e]
      exact .inr ⟨d, x, rfl, rfl, h1⟩
    · rw [decide_eq_false e]
      exact vA_is (k := k) (ks := ks) h2
theorem map_is {K : PySem.W.Frag} {F : Hp} {k : κ} {d : D} {v : V} (iv : Is K F d v) : ∀ {ks : List κ} {ds : List D} {xs : List V}, IsL K F ds xs → IsL K F ((ks.zip ds).map fun p => if p.1 = k then d else p.2) ((ks.zip xs).map fun p => if p.1 = k then v else p.2)
  | [], _, _, _ => IsL.nil
  | q :: ks, [], _, h => by
    simp only [IsL] at h
    subst h
    exact IsL.nil
  | q :: ks, e :: ds, _, h => by
    simp only [IsL] at h
    obtain ⟨x, r, rfl, h1, h2⟩ := h
    rw [List.zip_cons_cons, List.zip_cons_cons, List.map_cons, List.map_cons]
    refine IsL.cons ?_ (map_is iv h2)
    by_cases z : q = k
    · rw [if_pos z, if_pos z]; exact iv
    · rw [if_neg z, if_neg z]; exact h1
theorem pA_is {K : PySem.W.Frag} {F : Hp} {ks : List κ} {ds : List D} {xs : List V} {k : κ} {d : D} {v : V} (h : IsL K F ds xs) (iv : Is K F d v) : IsL K F (pA ks ds k d) (pA ks xs k v) := by
  unfold pA
  split
  · exact map_is iv h
  · exact h.append (IsL.cons iv IsL.nil)
end
def oDk (K : PySem.W.Frag) (ks : List Key) (ds : List D) : Ow := fun F o => ∃ xs, o = .dK (ks.zip xs) ∧ ks.length = xs.length ∧ IsL K F ds xs
def oDt (K : PySem.W.Frag) (ks : List (List Key)) (ds : List D) : Ow := fun F o => ∃ xs, o = .dT (ks.zip xs) ∧ ks.length = xs.length ∧ IsL K F ds xs
theorem isDk {K : PySem.W.Frag} {F : Hp} {ks : List Key} {ds : List D} {v : V} (h : Is K F (.dk ks ds) v) : ∃ a xs o, v = .ref a ∧ F a = some (.frz o (.dK (ks.zip xs))) ∧ ks.length = xs.length ∧ IsL K F ds xs := by simpa only [Is] using h
theorem isDt {K : PySem.W.Frag} {F : Hp} {ks : List (List Key)} {ds : List D} {v : V} (h : Is K F (.dt ks ds) v) : ∃ a xs, v = .ref a ∧ Rd F a (.dT (ks.zip xs)) ∧ ks.length = xs.length ∧ IsL K F ds xs := by simpa only [Is] using h
def kT (k : List Key) : List D := k.map keyD
section
variable {X : Cx} {B : Bs} {Γ : Ga} {Ω : Om} {E : E3} {rest : List Stmt} {a b o e f i tg : Expr} {es : List Expr} {d d' : D} {ds : List D} {ks : List Key} {kt : List (List Key)} {pos apos cpos : Pos} {R : D → Om → Prop}
theorem units1 (hu : X.A.units + 64 < cLine) : X.A.units + 1 < cLine := by omega
theorem p_ixK {k : Key} (hu : X.A.units + 64 < cLine) (ho : P3 X Γ o (.dk ks ds)) (hi : P3 X Γ i (keyD k)) (hv : vA ks ds k = some d) (hs : NoSl i := by exact fun _ _ => rfl) : P3 X Γ (.Subscript o i pos) d :=
  PE.of (pe_dget (units1 hu) ho hi hs) fun σ H Q ⟨F, fh, sl, q⟩ => ⟨F, fh, sl, fun x H1 F1 p1 i1 => ⟨F1, p1.fh, sl.mono p1.ff, fun y H2 F2 p2 i2 => by
    obtain ⟨l, xs, ob, rfl, hl, hz, il⟩ := isDk (i1.mono p2.ff)
    rw [is_key i2]
    rcases vA_is (k := k) (ks := ks) il with ⟨z, _⟩ | ⟨d1, v, z1, z2, z3⟩
    · rw [z] at hv; cases hv
    · rw [hv] at z1
      cases z1
      exact ⟨l, v, rfl, .inl ⟨_, k, .inr ⟨ob, p2.fh _ _ hl⟩, rfl, by rw [valV_vA, z2]⟩, q v H2 F2 (p1.trans p2) z3⟩⟩⟩
theorem p_getT {k : List Key} {x1} {tpos : Pos} (hu : X.A.units + 64 < cLine) (ho : P3 X Γ o (.dt kt ds)) (he : PL3 X Γ es (kT k)) (hf : P3 X Γ f d') (hz : (kT k).length ≤ sizeLine := by first | exact Nat.le_of_ble_eq_true rfl | (simp only [kT, List.length_map, List.length_cons, List.length_nil]; decide)) (m : M2 X o "get" apos (.Tuple es x1 tpos) f cpos := by exact ⟨rfl, rfl, rfl, rfl⟩) : P3 X Γ (.Call (.Attribute o "get" apos) [.Tuple es x1 tpos, f] [] cpos) ((vA kt ds k).getD d') :=
  PE.of (pe_dget2 (units1 hu) ho (pe_tup he) hf m) fun σ H Q ⟨F, fh, sl, q⟩ => ⟨F, fh, sl, fun x H1 F1 p1 i1 => by
    obtain ⟨l, xs, rfl, hl, hz', il⟩ := isDt i1
    have hl1 : Rd H1 l (.dT (kt.zip xs)) := same_rd p1.fh hl
    refine ⟨l, rfl, .inr ⟨_, hl1⟩, F1, p1.fh, sl.mono p1.ff, fun ys H2 F2 p2 i2 => ⟨by rw [i2.len]; exact hz, fun t ht => ?_⟩⟩
    have pt := p2.trans (Pur.lay (o := .tup ys) p2.fh ht)
    refine ⟨_, (Pur.lay p2.fh ht).fh, sl.mono (p1.ff.trans pt.ff), fun u H3 F3 p3 i3 => ?_⟩
    have et : H3 t = some (.tup (k.map kV)) := by
      have := is_keys (ks := k) i2
      rw [← this]
      exact p3.hh _ _ upd_same
    refine ⟨_, .inr ⟨_, k, t, same_rd p3.hh (same_rd pt.hh hl1), rfl, et, rfl⟩, q _ H3 F3 ((p1.trans pt).trans p3) ?_⟩
    rw [valV_vA]
    rcases vA_is (k := k) (ks := kt) (il.mono (pt.ff.trans p3.ff)) with ⟨z1, z2⟩ | ⟨d1, v, z1, z2, z3⟩
    · rw [z1, z2]; exact i3
    · rw [z1, z2]; exact z3⟩
theorem i_dict (h : P3 X Γ a (.dk ks ds)) : I3 X Γ tg a (ks.map keyD) := PI.of (pi_dict h) fun σ H Q ⟨F, fh, sl, q⟩ => ⟨F, fh, sl, fun v H' F' p i => by
  obtain ⟨l, xs, ob, rfl, hl, hz, il⟩ := isDk i
  refine ⟨l, ob, _, rfl, p.fh _ _ hl, q _ H' F' p fun n F2 H2 e1 e2 => ⟨fun d w => ?_, fun w => ⟨e2 _ _ (e1 _ _ hl), by rw [List.length_zip]; rw [List.length_map] at w; omega⟩⟩⟩
  rw [List.getElem?_map] at w
  obtain ⟨k, hk, rfl⟩ := Option.map_eq_some_iff.mp w
  have hn : n < ks.length := (List.getElem?_eq_some_iff.mp hk).1
  refine ⟨⟨e2 _ _ (e1 _ _ hl), by rw [List.length_zip]; omega⟩, fun x H3 ⟨z, k', v', hkv, ex⟩ => ?_⟩
  subst z ex
  have : k' = k := by
    rw [List.getElem?_zip_eq_some] at hkv
    rw [hk] at hkv
    exact (Option.some.inj hkv.1).symm
  subst this
  refine ⟨F2, Pur.refl e2, ?_⟩
  cases k' with
  | inl j => exact i_int F2
  | inr y => exact i_str F2⟩
theorem v_newK (r : ∀ l, R (.raw (.ref l)) ((l, oDk X.K [] []) :: Ω)) : V3 X B (.Dict [] [] pos) Γ Ω R := fun F σ H S pins s I =>
  pe_dnewK pins s σ H _ I fun l hl => ⟨.raw (.ref l), _, F, S.new (Pur.layOwn S.fh hl) hl (S.fh.free hl) upd_same (fun F2 _ => ⟨[], rfl, rfl, IsL.nil⟩), Same.refl _, i_raw F, r l⟩
theorem v_newT (r : ∀ l, R (.raw (.ref l)) ((l, oDt X.K [] []) :: Ω)) : V3 X B (.Dict [] [] pos) Γ Ω R := fun F σ H S pins s I =>
  pe_dnewT pins s σ H _ I fun l hl => ⟨.raw (.ref l), _, F, S.new (Pur.layOwn S.fh hl) hl (S.fh.free hl) upd_same (fun F2 _ => ⟨[], rfl, rfl, IsL.nil⟩), Same.refl _, i_raw F, r l⟩
theorem v_getK {k : Key} {l : Addr} (hu : X.A.units + 64 < cLine) (ho : P3 X Γ o (.raw (.ref l))) (hm : (l, oDk X.K ks ds) ∈ Ω) (he : P3 X Γ e (keyD k)) (hf : P3 X Γ f d') (r : R ((vA ks ds k).getD d') Ω) (m : M2 X o "get" apos e f cpos := by exact ⟨rfl, rfl, rfl, rfl⟩) : V3 X B (.Call (.Attribute o "get" apos) [e, f] [] cpos) Γ Ω R := fun F σ H S pins s I =>
  pe_dget2 (units1 hu) ho he hf m pins s σ H _ I ⟨F, S.fh, S.sl, fun x H1 F1 p1 i1 => by
    cases isR i1
    have S1 := S.pur p1
    obtain ⟨fa, ob, ha, hob⟩ := S1.own _ hm
    obtain ⟨xs, rfl, hz, il⟩ := hob F1 (Same.refl _)
    refine ⟨l, rfl, .inl ⟨_, .inl ha⟩, F1, p1.fh, S1.sl, fun y H2 F2 p2 i2 => ⟨F2, p2.fh, S1.sl.mono p2.ff, fun u H3 F3 p3 i3 => ?_⟩⟩
    rw [is_key i2]
    have S3 := (S1.pur p2).pur p3
    refine ⟨_, .inl ⟨_, k, .inl (p3.hh _ _ (p2.hh _ _ ha)), rfl, rfl⟩, _, Ω, F3, S3, p1.ff.trans (p2.ff.trans p3.ff), ?_, r⟩
    rw [valV_vA]
    rcases vA_is (k := k) (ks := ks) (il.mono (p2.ff.trans p3.ff)) with ⟨z1, z2⟩ | ⟨d1, v, z1, z2, z3⟩
    · rw [z1, z2]; exact i3
    · rw [z1, z2]; exact z3⟩
theorem w_setK {spos tpos : Pos} {l : Addr} {k : Key} (hu : X.A.units + 64 < cLine) (ho : P3 X Γ o (.raw (.ref l))) (hi : P3 X Γ i (keyD k))
    (h : V3 X B e Γ Ω fun d Ω1 => ∃ ks ds Ω4, Ω1.Perm ((l, oDk X.K ks ds) :: Ω4) ∧ ks.length < sizeLine ∧ W3 X B rest Γ ((l, oDk X.K (pK ks k) (pA ks ds k d)) :: Ω4) E)
    (hs : swapsWith e (some (.Subscript o i tpos)) spos.line X.env = pure false := by rfl) : W3 X B (.Assign [.Subscript o i tpos] e spos :: rest) Γ Ω E := fun F σ H S pins s I =>
  pss_cons (ps_dput (units1 hu) ho hi pe_w hs) pss_w pins s σ H _ I ((h F σ H S).mono fun v H1 ⟨d, Ω1, F1, S1, f1, i1, ks, ds, Ω4, pm, hz, h1⟩ => ⟨F1, S1.fh, S1.sl, fun x H2 F2 p2 i2 => ⟨F2, p2.fh, S1.sl.mono p2.ff, fun y H3 F3 p3 i3 => by
    cases isR i2
    rw [is_key i3]
    have S3 := ((S1.pur p2).pur p3).perm pm.symm
    obtain ⟨fa, ob, ha, hob⟩ := S3.own (l, oDk X.K ks ds) (by simp)
    obtain ⟨xs, rfl, hl, il⟩ := hob F3 (Same.refl _)
    refine ⟨l, _, rfl, DPut.k ha (by rw [List.length_zip]; omega), to_mono (f1.trans (p2.ff.trans p3.ff)) (h1 F3 σ _ ?_)⟩
    rw [putK_zip hl]
    exact S3.turn fun F5 e5 => ⟨_, rfl, pA_len hl, pA_is (il.mono e5) (i1.mono (p2.ff.trans (p3.ff.trans e5)))⟩⟩⟩)
theorem w_setT {spos tpos kpos : Pos} {x1} {l : Addr} {k : List Key} (hu : X.A.units + 64 < cLine) (ho : V3 X B o Γ Ω fun dq Ω1 => dq = .raw (.ref l) ∧ Ω1 = Ω) (hi : PL3 X Γ es (kT k))
    (h : P3 X Γ e d) {kt : List (List Key)} {ds : List D} {Ω4 : Om} (pm : Ω.Perm ((l, oDt X.K kt ds) :: Ω4)) (hz : kt.length < sizeLine) (hw : W3 X B rest Γ ((l, oDt X.K (pK kt k) (pA kt ds k d)) :: Ω4) E) (hk : (kT k).length ≤ sizeLine := by first | exact Nat.le_of_ble_eq_true rfl | (simp only [kT, List.length_map, List.length_cons, List.length_nil]; decide))
    (hs : swapsWith e (some (.Subscript o (.Tuple es x1 kpos) tpos)) spos.line X.env = pure false := by rfl) : W3 X B (.Assign [.Subscript o (.Tuple es x1 kpos) tpos] e spos :: rest) Γ Ω E := fun F σ H S pins s I =>
  pss_cons (ps_dput (units1 hu) pe_w (pe_tup hi) h hs) pss_w pins s σ H _ I ⟨F, S.fh, S.sl, fun v H1 F1 p1 i1 => (ho F1 σ H1 (S.pur p1)).mono fun x H2 ⟨dq, Ω1, F2, S2, f2, i2, e2, e3⟩ => by
    subst e2 e3
    cases isR i2
    refine ⟨F2, S2.fh, S2.sl, fun ys H3 F3 p3 i3 => ⟨by rw [i3.len]; exact hk, fun t ht => ?_⟩⟩
    have pt := p3.trans (Pur.lay (o := .tup ys) p3.fh ht)
    have S3 := (S2.pur pt).perm pm.symm
    obtain ⟨fa, ob, ha, hob⟩ := S3.own (l, oDt X.K kt ds) (by simp)
    obtain ⟨xs, rfl, hl, il⟩ := hob _ (Same.refl _)
    have et : upd H3 t (.tup ys) t = some (.tup (k.map kV)) := by
      rw [← is_keys (ks := k) i3]
      exact upd_same
    refine ⟨l, _, rfl, DPut.t ha et (by rw [List.length_zip]; omega), to_mono (p1.ff.trans (f2.trans pt.ff)) (hw _ σ _ ?_)⟩
    rw [putK_zip hl]
    exact S3.turn fun F5 e5 => ⟨_, rfl, pA_len hl, pA_is (il.mono e5) (i1.mono (f2.trans (pt.ff.trans e5)))⟩⟩
theorem w_frzK {sts : List Stmt} {i : Nat} {l : Addr} (hΓ : Γ[i]? = some (some (.raw (.ref l)))) (h : W3 X B sts (Γ.set i (some (.dk ks ds))) Ω E) : W3 X B sts Γ ((l, oDk X.K ks ds) :: Ω) E := fun F σ H S pins s I => by
  obtain ⟨v, e1, e2⟩ := S.sl i _ hΓ
  cases isR e2
  obtain ⟨fa, o0, ha, ho⟩ := S.own (l, oDk X.K ks ds) (by simp)
  obtain ⟨xs, rfl, hl, il⟩ := ho F (Same.refl _)
  have nin := (List.nodup_cons.mp S.nd).1
  obtain ⟨ob, hob⟩ := (I.hok l _ ha).there
  have w : Same F (upd F l (.frz ob (.dK (ks.zip xs)))) := fun b u q => by rw [upd_ne (ne_of_none q fa)]; exact q
  refine to_mono w (h (upd F l (.frz ob (.dK (ks.zip xs)))) σ (upd H l (.frz ob (.dK (ks.zip xs)))) ⟨S.f0.trans w, fun b u q => ?_, fun b q => ?_, fun b u hb q => ?_, (List.nodup_cons.mp S.nd).2, fun q hq => S.od q (List.mem_cons_of_mem _ hq), fun q hq => ?_, fun j d q => ?_⟩) pins s (I.known ha rfl hob)
  · by_cases hb : b = l
    · subst hb; rw [upd_same] at q ⊢; exact q
    · rw [upd_ne hb] at q ⊢; exact S.fh _ _ q
  · by_cases hb : b = l
    · subst hb
      exact (S.od (b, oDk X.K ks ds) (by simp)).elim (fun z => .inr (.inr z)) fun z => .inr (.inl z)
    · rw [upd_ne hb] at q; exact S.fr b q
  · by_cases z : b = l
    · subst z
      rcases S.od (b, oDk X.K ks ds) (by simp) with y | y
      · exact absurd y hb
      · have y' : B.H b = none := y
        rw [y'] at q; cases q
    · rw [upd_ne z]; exact S.kp b u hb q
  · obtain ⟨h1, o', h2, h3⟩ := S.own q (List.mem_cons_of_mem _ hq)
    have ne : q.1 ≠ l := fun e => nin (List.mem_map.mpr ⟨q, hq, e⟩)
    exact ⟨by rw [upd_ne ne]; exact h1, o', by rw [upd_ne ne]; exact h2, fun F2 e => h3 F2 (w.trans e)⟩
  · by_cases hj : i = j
    · subst hj
      rw [List.getElem?_set] at q
      split at q
      · split at q
        · cases q
          exact ⟨_, e1, by simp only [Is]; exact ⟨l, xs, ob, rfl, upd_same, hl, il.mono w⟩⟩
        · cases q
      · contradiction
    · rw [List.getElem?_set_ne hj] at q
      obtain ⟨u, h1, h2⟩ := S.sl j d q
      exact ⟨u, h1, h2.mono w⟩
theorem w_frzT {sts : List Stmt} {i : Nat} {l : Addr} (hΓ : Γ[i]? = some (some (.raw (.ref l)))) (h : W3 X B sts (Γ.set i (some (.dt kt ds))) Ω E) : W3 X B sts Γ ((l, oDt X.K kt ds) :: Ω) E := fun F σ H S => by
  obtain ⟨v, e1, e2⟩ := S.sl i _ hΓ
  cases isR e2
  obtain ⟨fa, o0, ha, ho⟩ := S.own (l, oDt X.K kt ds) (by simp)
  obtain ⟨xs, rfl, hl, il⟩ := ho F (Same.refl _)
  have nin := (List.nodup_cons.mp S.nd).1
  have w : Same F (upd F l (.dT (kt.zip xs))) := fun b u q => by rw [upd_ne (ne_of_none q fa)]; exact q
  refine to_mono w (h (upd F l (.dT (kt.zip xs))) σ H ⟨S.f0.trans w, fun b u q => ?_, fun b q => ?_, S.kp, (List.nodup_cons.mp S.nd).2, fun q hq => S.od q (List.mem_cons_of_mem _ hq), fun q hq => ?_, fun j d q => ?_⟩)
  · by_cases hb : b = l
    · subst hb; rw [upd_same] at q; cases q; exact ha
    · rw [upd_ne hb] at q; exact S.fh _ _ q
  · by_cases hb : b = l
    · subst hb
      exact (S.od (b, oDt X.K kt ds) (by simp)).elim (fun z => .inr (.inr z)) fun z => .inr (.inl z)
    · rw [upd_ne hb] at q; exact S.fr b q
  · obtain ⟨h1, o', h2, h3⟩ := S.own q (List.mem_cons_of_mem _ hq)
    have ne : q.1 ≠ l := fun e => nin (List.mem_map.mpr ⟨q, hq, e⟩)
    exact ⟨by rw [upd_ne ne]; exact h1, o', h2, fun F2 e => h3 F2 (w.trans e)⟩
  · by_cases hj : i = j
    · subst hj
      rw [List.getElem?_set] at q
      split at q
      · split at q
        · cases q
          exact ⟨_, e1, by simp only [Is]; exact ⟨l, xs, rfl, .inl upd_same, hl, il.mono w⟩⟩
        · cases q
      · contradiction
    · rw [List.getElem?_set_ne hj] at q
      obtain ⟨u, h1, h2⟩ := S.sl j d q
      exact ⟨u, h1, h2.mono w⟩
end
end L3
set_option Elab.async false
set_option linter.all false
set_option maxRecDepth 100000
set_option maxHeartbeats 4000000
namespace PySem
open Sem (wp)
section
variable {prog : Program} {w : World} {A : Around} {E : Value → Shared → Prop} {s : Shared}
abbrev ZipP (h : Heap) (z TI TO : Addr) (f0 : Value) (f1 : Bool) : Prop := h.get? z = some { cls := .type "zip", dict := none, data := .fields #[f0, .bool f1, .bool false, .ref TI, .ref TO], slots := #[] }
structure ZipL (h : Heap) (TI i1 i2 t1 t2 : Addr) (xs ys : Array Value) (k : Nat) : Prop where
  pr : IsPair h TI (.ref i1) (.ref i2)
  a1 : h.IsListIter i1 t1 k
  a2 : h.IsListIter i2 t2 k
  b1 : h.IsList t1 xs
  b2 : h.IsList t2 ys
theorem ZipL.put {h g : Heap} {z TI TO i1 i2 t1 t2 : Addr} {xs ys : Array Value} {k : Nat} (c : ZipL h TI i1 i2 t1 t2 xs ys k) (e : ∀ b, b = TI ∨ b = i1 ∨ b = i2 ∨ b = t1 ∨ b = t2 → ∀ o, h.get? b = some o → g.get? b = some o) : ZipL g TI i1 i2 t1 t2 xs ys k :=
  ⟨e _ (.inl rfl) _ c.pr, c.a1.at (e _ (.inr (.inl rfl))), c.a2.at (e _ (.inr (.inr (.inl rfl)))), (let ⟨o, q, r⟩ := c.b1; ⟨o, e _ (.inr (.inr (.inr (.inl rfl)))) _ q, r⟩), (let ⟨o, q, r⟩ := c.b2; ⟨o, e _ (.inr (.inr (.inr (.inr rfl)))) _ q, r⟩)⟩
theorem zipL_free {z TI TO i1 i2 t1 t2 : Addr} {k : Nat} {xs ys : Array Value} {x y a b : Value} {Q : Value → Shared → Prop} (D : ZipApart z TI TO i1 i2 t1 t2) (hz : ZipP s.heap z TI TO .none false) (c : ZipL s.heap TI i1 i2 t1 t2 xs ys k) (ho : IsPair s.heap TO a b) (hx : xs[k]? = some x) (hy : ys[k]? = some y)
    (K : ∀ g, ZipP g z TI TO (rawInt s.heap.objs.size) false → IsPair g TO x y → ZipL g TI i1 i2 t1 t2 xs ys (k + 1) → IsPair g s.heap.objs.size x y → g.objs.size = s.heap.objs.size + 1 → (∀ b o, b ≠ z → b ≠ TO → b ≠ i1 → b ≠ i2 → s.heap.get? b = some o → g.get? b = some o) → Q (.ref s.heap.objs.size) { s with heap := g }) :
    wpAny (model prog w) A (Builtin.«zip.__next__» ⟨[.ref z], []⟩) (fun fin s' => ∃ v, fin = .done (.ret v) ∧ Q v s') E s := by
  show wpAny _ _ (field (.ref z) 2 >>= _) _ _ _
  refine wpAny_bind (wpAny_field (s := s) hz rfl (x := .bool false) rfl ?_)
  show wpAny _ _ (field (.ref z) 3 >>= _) _ _ _
  refine wpAny_bind (wpAny_field (s := s) hz rfl (x := .ref TI) rfl ?_)
  refine wpAny_bind (wpAny_seqItems (s := s) c.pr rfl ?_)
  show wpAny _ _ (Builtin.SmallTypes.ownedTupleIsFree (.ref z) >>= _) _ _ _
  refine wpAny_bind ?_
  unfold Builtin.SmallTypes.ownedTupleIsFree
  refine wpAny_bind (wpAny_field (s := s) hz rfl (x := .none) rfl (wpAny_pure ?_))
  simp only [if_true]
  refine wpAny_bind (wpAny_rule (wpAny_bind (wpAny_field (s := s) hz rfl (x := .ref TO) rfl (wpAny_bind (wpAny_setField_rec hz (by simp) fun g1 z1 s1 => wpAny_bind ?_)))))
  have z1 : ZipP g1 z TI TO .ellipsis false := z1
  simp only [List.zipIdx_cons, List.zipIdx_nil, List.forIn_cons, List.forIn_nil]
  refine wpAny_bind (wpAny_bind (wpAny_onRaise ?_))
  show wpAny _ _ (Builtin.SmallTypes.nextOf (.ref i1) >>= _) _ _ _
  refine wpAny_bind (wpAny_nextOf_list_item (c.a1.extBut s1.extBut D.i1z) (c.b1.extBut s1.extBut D.l1z) hx fun g2 j1 s2 => wpAny_pure ?_)
  have o2 : IsPair g2 TO a b := s2.extBut _ _ D.TOi1 (s1.extBut _ _ D.TOz ho)
  refine wpAny_bind (wpAny_seqItems o2 rfl (wpAny_bind (wpAny_updateSeq_pair o2 fun g3 o3 s3 => wpAny_bind (wpAny_letGo (wpAny_pure ?_)))))
  have o3 : IsPair g3 TO x b := o3
  refine wpAny_bind (wpAny_bind (wpAny_onRaise ?_))
  show wpAny _ _ (Builtin.SmallTypes.nextOf (.ref i2) >>= _) _ _ _
  refine wpAny_bind (wpAny_nextOf_list_item (((c.a2.extBut s1.extBut D.i2z).extBut s2.extBut D.i12.symm).extBut s3.extBut D.TOi2.symm) (((c.b2.extBut s1.extBut D.l2z).extBut s2.extBut D.l2i1).extBut s3.extBut D.l2TO) hy fun g4 j2 s4 => wpAny_pure ?_)
  have o4 : IsPair g4 TO x b := s4.extBut _ _ D.TOi2 o3
  refine wpAny_bind (wpAny_seqItems o4 rfl (wpAny_bind (wpAny_updateSeq_pair o4 fun g5 o5 s5 => wpAny_bind (wpAny_letGo (wpAny_pure (wpAny_pure ?_))))))
  have o5 : IsPair g5 TO x y := o5
  refine wpAny_bind (wpAny_seqItems o5 rfl (wpAny_bind (wpAny_newTuple ?_)))
  have sz : g5.objs.size = s.heap.objs.size := by rw [s5.1, s4.1, s3.1, s2.1, s1.1]
  have z5 : ZipP g5 z TI TO .ellipsis false := s5.extBut _ _ D.TOz.symm (s4.extBut _ _ D.i2z.symm (s3.extBut _ _ D.TOz.symm (s2.extBut _ _ D.i1z.symm z1)))
  have k5 : ∀ b o, b ≠ z → b ≠ TO → b ≠ i1 → b ≠ i2 → s.heap.get? b = some o → g5.get? b = some o := fun b o c1 c2 c3 c4 e =>
    s5.extBut _ _ c2 (s4.extBut _ _ c4 (s3.extBut _ _ c2 (s2.extBut _ _ c3 (s1.extBut _ _ c1 e))))
  have j1' : g5.IsListIter i1 t1 (k + 1) := ((j1.extBut s3.extBut D.TOi1.symm).extBut s4.extBut D.i12).extBut s5.extBut D.TOi1.symm
  have j2' : g5.IsListIter i2 t2 (k + 1) := j2.extBut s5.extBut D.TOi2.symm
  have lz : z < g5.objs.size := Heap.lt_size z5
  show wpAny _ _ (Builtin.SmallTypes.ownedTupleHandOut (.ref z) (.ref g5.objs.size) >>= _) _ _ _
  refine wpAny_bind ?_
  unfold Builtin.SmallTypes.ownedTupleHandOut
  have z6 : ZipP (g5.push { cls := .type "tuple", data := .seq #[x, y] }) z TI TO .ellipsis false := Heap.get?_push_of_some _ z5
  refine wpAny_bind (wpAny_setField_rec z6 (by simp) fun g7 z7 s7 => ?_)
  have z7 : ZipP g7 z TI TO (rawInt g5.objs.size) false := z7
  refine wpAny_setField_rec z7 (by simp) fun g8 z8 s8 => ?_
  have z8 : ZipP g8 z TI TO (rawInt g5.objs.size) false := z8
  have up : ∀ b o, b ≠ z → g5.get? b = some o → g8.get? b = some o := fun b o c1 e => s8.extBut _ _ c1 (s7.extBut _ _ c1 (Heap.get?_push_of_some _ e))
  have nw : IsPair g8 g5.objs.size x y := s8.extBut _ _ (Nat.ne_of_gt lz) (s7.extBut _ _ (Nat.ne_of_gt lz) (Heap.get?_push_size _ rfl))
  have sz8 : g8.objs.size = g5.objs.size + 1 := by rw [s8.1, s7.1, Heap.size_push]
  rw [sz] at z8 nw sz8
  refine wpAny_pure ⟨_, rfl, ?_⟩
  show Q (.ref g5.objs.size) _
  rw [sz]
  have w5 : ∀ b o, b ≠ z → b ≠ TO → b ≠ i1 → b ≠ i2 → s.heap.get? b = some o → g8.get? b = some o := fun b o c1 c2 c3 c4 e => up b o c1 (k5 b o c1 c2 c3 c4 e)
  exact K g8 z8 (up _ _ D.TOz o5) ⟨w5 _ _ D.TIz D.TITO D.TIi1 D.TIi2 c.pr, j1'.at fun o e => up _ o D.i1z e, j2'.at fun o e => up _ o D.i2z e, (let ⟨o, q, r⟩ := c.b1; ⟨o, w5 _ _ D.l1z D.l1TO D.l1i1 D.l1i2 q, r⟩), (let ⟨o, q, r⟩ := c.b2; ⟨o, w5 _ _ D.l2z D.l2TO D.l2i1 D.l2i2 q, r⟩)⟩ nw sz8 w5
theorem wpAny_aliveL {a : Addr} {o : Obj} {Q : Option Obj → Shared → Prop} (ho : s.heap.get? a = some o) (h : Q (some o) s) : wpAny (model prog w) A (loadIfAlive a) Q E s := fun Γ p _ => by
  unfold loadIfAlive
  rw [Sem.wp_loadIfAlive, ho]
  exact (Sem.wp_pure ..).mpr h
theorem zipL_mark {z TI TO T : Addr} {f1 : Bool} {oT : Obj} {Q : Bool → Shared → Prop} (hz : ZipP s.heap z TI TO (rawInt T) f1) (hT : s.heap.get? T = some oT) (K : ∀ g, ZipP g z TI TO (rawInt T) true → Heap.SameBut z s.heap g → Q false { s with heap := g }) :
    wpAny (model prog w) A (Builtin.SmallTypes.ownedTupleIsFree (.ref z)) Q E s := by
  unfold Builtin.SmallTypes.ownedTupleIsFree
  refine wpAny_bind (wpAny_field (s := s) hz rfl (x := rawInt T) rfl ?_)
  show wpAny _ _ (loadIfAlive T >>= _) _ _ _
  refine wpAny_bind (wpAny_aliveL hT ?_)
  simp only [Option.isNone_some, Bool.false_eq_true, if_false]
  refine wpAny_bind (wpAny_field (s := s) hz rfl (x := .bool f1) rfl ?_)
  cases f1 with
  | true => exact wpAny_pure (K s.heap hz (Heap.SameBut.refl ..))
  | false => exact wpAny_bind (wpAny_setField_rec hz (by simp) fun g z1 s1 => wpAny_pure (K g z1 s1))
theorem zipL_held {z TI TO i1 i2 t1 t2 T : Addr} {k : Nat} {xs ys : Array Value} {x y : Value} {f1 : Bool} {oT : Obj} {Q : Value → Shared → Prop} (D : ZipApart z TI TO i1 i2 t1 t2) (hz : ZipP s.heap z TI TO (rawInt T) f1) (c : ZipL s.heap TI i1 i2 t1 t2 xs ys k) (hT : s.heap.get? T = some oT) (hx : xs[k]? = some x) (hy : ys[k]? = some y)
    (K : ∀ g, ZipP g z TI TO (rawInt T) true → ZipL g TI i1 i2 t1 t2 xs ys (k + 1) → IsPair g s.heap.objs.size x y → g.objs.size = s.heap.objs.size + 1 → (∀ b o, b ≠ z → b ≠ i1 → b ≠ i2 → s.heap.get? b = some o → g.get? b = some o) → Q (.ref s.heap.objs.size) { s with heap := g }) :
    wpAny (model prog w) A (Builtin.«zip.__next__» ⟨[.ref z], []⟩) (fun fin s' => ∃ v, fin = .done (.ret v) ∧ Q v s') E s := by
  show wpAny _ _ (field (.ref z) 2 >>= _) _ _ _
  refine wpAny_bind (wpAny_field (s := s) hz rfl (x := .bool false) rfl ?_)
  show wpAny _ _ (field (.ref z) 3 >>= _) _ _ _
  refine wpAny_bind (wpAny_field (s := s) hz rfl (x := .ref TI) rfl ?_)
  refine wpAny_bind (wpAny_seqItems (s := s) c.pr rfl ?_)
  show wpAny _ _ (Builtin.SmallTypes.ownedTupleIsFree (.ref z) >>= _) _ _ _
  refine wpAny_bind ?_
  refine zipL_mark hz hT fun g1 z1 s1 => ?_
  simp only [Bool.false_eq_true, if_false, ← Array.forIn_toList, List.forIn_cons, List.forIn_nil]
  refine wpAny_bind (wpAny_bind (wpAny_bind (wpAny_holding ?_)))
  show wpAny _ _ (Builtin.SmallTypes.nextOf (.ref i1) >>= _) _ _ _
  refine wpAny_bind (wpAny_nextOf_list_item (c.a1.extBut s1.extBut D.i1z) (c.b1.extBut s1.extBut D.l1z) hx fun g2 j1 s2 => wpAny_pure (wpAny_pure ?_))
  refine wpAny_bind (wpAny_bind (wpAny_holding ?_))
  show wpAny _ _ (Builtin.SmallTypes.nextOf (.ref i2) >>= _) _ _ _
  refine wpAny_bind (wpAny_nextOf_list_item ((c.a2.extBut s1.extBut D.i2z).extBut s2.extBut D.i12.symm) ((c.b2.extBut s1.extBut D.l2z).extBut s2.extBut D.l2i1) hy fun g3 j2 s3 => wpAny_pure (wpAny_pure (wpAny_pure ?_)))
  refine wpAny_bind (wpAny_newTuple (wpAny_pure ⟨_, rfl, ?_⟩) (by show (2 : Nat) ≤ sizeLine; decide))
  have sz : g3.objs.size = s.heap.objs.size := by rw [s3.1, s2.1, s1.1]
  have k3 : ∀ b o, b ≠ z → b ≠ i1 → b ≠ i2 → s.heap.get? b = some o → g3.get? b = some o := fun b o c1 c3 c4 e => s3.extBut _ _ c4 (s2.extBut _ _ c3 (s1.extBut _ _ c1 e))
  have z3 : ZipP g3 z TI TO (rawInt T) true := s3.extBut _ _ D.i2z.symm (s2.extBut _ _ D.i1z.symm z1)
  have j1' : g3.IsListIter i1 t1 (k + 1) := j1.extBut s3.extBut D.i12
  show Q (.ref g3.objs.size) _
  have nw : IsPair (g3.push { cls := .type "tuple", data := .seq #[x, y] }) g3.objs.size x y := Heap.get?_push_size _ rfl
  rw [sz] at nw ⊢
  have up : ∀ b o, g3.get? b = some o → (g3.push { cls := .type "tuple", data := .seq #[x, y] }).get? b = some o := fun b o e => Heap.get?_push_of_some _ e
  exact K _ (up _ _ z3) ⟨up _ _ (k3 _ _ D.TIz D.TIi1 D.TIi2 c.pr), j1'.at fun o e => up _ o e, j2.at fun o e => up _ o e, (let ⟨o, q, r⟩ := c.b1; ⟨o, up _ _ (k3 _ _ D.l1z D.l1i1 D.l1i2 q), r⟩), (let ⟨o, q, r⟩ := c.b2; ⟨o, up _ _ (k3 _ _ D.l2z D.l2i1 D.l2i2 q), r⟩)⟩ nw (by rw [Heap.size_push, sz]) fun b o c1 c2 c3 e => up _ _ (k3 b o c1 c2 c3 e)
theorem zipL_end {z TI TO i1 i2 t1 t2 : Addr} {k : Nat} {xs ys : Array Value} {a b f0 : Value} {f1 : Bool} {Q : Fin → Shared → Prop} (hh : A.handled = none) (D : ZipApart z TI TO i1 i2 t1 t2) (hz : ZipP s.heap z TI TO f0 f1) (hf : (f0 = .none ∧ f1 = false) ∨ ∃ T o, f0 = rawInt (T : Nat) ∧ s.heap.get? T = some o) (c : ZipL s.heap TI i1 i2 t1 t2 xs ys k) (ho : IsPair s.heap TO a b) (hend : xs[k]? = none ∨ ys[k]? = none)
    (K : ∀ g e, (∀ b o, b ≠ z → b ≠ TO → b ≠ i1 → b ≠ i2 → s.heap.get? b = some o → g.get? b = some o) → (∃ o, g.get? e = some o ∧ o.cls = .type "StopIteration") → E (.ref e) { s with heap := g }) :
    wpAny (model prog w) A (Builtin.«zip.__next__» ⟨[.ref z], []⟩) Q E s := by
  show wpAny _ _ (field (.ref z) 2 >>= _) _ _ _
  refine wpAny_bind (wpAny_field (s := s) hz rfl (x := .bool false) rfl ?_)
  show wpAny _ _ (field (.ref z) 3 >>= _) _ _ _
  refine wpAny_bind (wpAny_field (s := s) hz rfl (x := .ref TI) rfl ?_)
  refine wpAny_bind (wpAny_seqItems (s := s) c.pr rfl ?_)
  show wpAny _ _ (Builtin.SmallTypes.ownedTupleIsFree (.ref z) >>= _) _ _ _
  refine wpAny_bind ?_
  rcases hf with ⟨rfl, rfl⟩ | ⟨T, oT, rfl, hT⟩
  · unfold Builtin.SmallTypes.ownedTupleIsFree
    refine wpAny_bind (wpAny_field (s := s) hz rfl (x := .none) rfl (wpAny_pure ?_))
    simp only [if_true]
    refine wpAny_bind (wpAny_rule (wpAny_bind (wpAny_field (s := s) hz rfl (x := .ref TO) rfl (wpAny_bind (wpAny_setField_rec hz (by simp) fun g1 z1 s1 => wpAny_bind ?_)))))
    have z1 : ZipP g1 z TI TO .ellipsis false := z1
    simp only [List.zipIdx_cons, List.zipIdx_nil, List.forIn_cons, List.forIn_nil]
    refine wpAny_bind (wpAny_bind (wpAny_onRaise ?_))
    show wpAny _ _ (Builtin.SmallTypes.nextOf (.ref i1) >>= _) _ _ _
    cases hx : xs[k]? with
    | none =>
      refine wpAny_bind (wpAny_nextOf_list_end hh (c.a1.extBut s1.extBut D.i1z) (c.b1.extBut s1.extBut D.l1z) hx fun g2 e s2 he => ?_)
      obtain ⟨oe, h1, h2⟩ := he
      have z2 : ZipP g2 z TI TO .ellipsis false := s2 _ _ D.i1z.symm z1
      have ne : e ≠ z := fun q => by subst q; rw [z2] at h1; cases h1; simp at h2
      exact wpAny_setField_rec z2 (by simp) fun g3 _ s3 => K g3 e (fun b o c1 _ c3 _ q => s3.extBut _ _ c1 (s2 _ _ c3 (s1.extBut _ _ c1 q))) ⟨oe, s3.extBut _ _ ne h1, h2⟩
    | some x =>
      have hy : ys[k]? = none := hend.resolve_left (by rw [hx]; exact fun q => nomatch q)
      refine wpAny_bind (wpAny_nextOf_list_item (c.a1.extBut s1.extBut D.i1z) (c.b1.extBut s1.extBut D.l1z) hx fun g2 j1 s2 => wpAny_pure ?_)
      have o2 : IsPair g2 TO a b := s2.extBut _ _ D.TOi1 (s1.extBut _ _ D.TOz ho)
      refine wpAny_bind (wpAny_seqItems o2 rfl (wpAny_bind (wpAny_updateSeq_pair o2 fun g3 o3 s3 => wpAny_bind (wpAny_letGo (wpAny_pure (wpAny_bind (wpAny_bind (wpAny_onRaise ?_))))))))
      show wpAny _ _ (Builtin.SmallTypes.nextOf (.ref i2) >>= _) _ _ _
      refine wpAny_bind (wpAny_nextOf_list_end hh (((c.a2.extBut s1.extBut D.i2z).extBut s2.extBut D.i12.symm).extBut s3.extBut D.TOi2.symm) (((c.b2.extBut s1.extBut D.l2z).extBut s2.extBut D.l2i1).extBut s3.extBut D.l2TO) hy fun g4 e s4 he => ?_)
      obtain ⟨oe, h1, h2⟩ := he
      have z4 : ZipP g4 z TI TO .ellipsis false := s4 _ _ D.i2z.symm (s3.extBut _ _ D.TOz.symm (s2.extBut _ _ D.i1z.symm z1))
      have ne : e ≠ z := fun q => by subst q; rw [z4] at h1; cases h1; simp at h2
      exact wpAny_setField_rec z4 (by simp) fun g5 _ s5 => K g5 e (fun b o c1 c2 c3 c4 q => s5.extBut _ _ c1 (s4 _ _ c4 (s3.extBut _ _ c2 (s2.extBut _ _ c3 (s1.extBut _ _ c1 q))))) ⟨oe, s5.extBut _ _ ne h1, h2⟩
  · refine zipL_mark hz hT fun g1 z1 s1 => ?_
    simp only [Bool.false_eq_true, if_false, ← Array.forIn_toList, List.forIn_cons, List.forIn_nil]
    refine wpAny_bind (wpAny_bind (wpAny_bind (wpAny_holding ?_)))
    show wpAny _ _ (Builtin.SmallTypes.nextOf (.ref i1) >>= _) _ _ _
    cases hx : xs[k]? with
    | none => exact wpAny_bind (wpAny_nextOf_list_end hh (c.a1.extBut s1.extBut D.i1z) (c.b1.extBut s1.extBut D.l1z) hx fun g2 e s2 he => K g2 e (fun b o c1 _ c3 _ q => s2 _ _ c3 (s1.extBut _ _ c1 q)) he)
    | some x =>
      have hy : ys[k]? = none := hend.resolve_left (by rw [hx]; exact fun q => nomatch q)
      refine wpAny_bind (wpAny_nextOf_list_item (c.a1.extBut s1.extBut D.i1z) (c.b1.extBut s1.extBut D.l1z) hx fun g2 j1 s2 => wpAny_pure (wpAny_pure ?_))
      refine wpAny_bind (wpAny_bind (wpAny_holding ?_))
      show wpAny _ _ (Builtin.SmallTypes.nextOf (.ref i2) >>= _) _ _ _
      exact wpAny_bind (wpAny_nextOf_list_end hh ((c.a2.extBut s1.extBut D.i2z).extBut s2.extBut D.i12.symm) ((c.b2.extBut s1.extBut D.l2z).extBut s2.extBut D.l2i1) hy fun g4 e s4 he => K g4 e (fun b o c1 c2 c3 c4 q => s4 _ _ c4 (s2.extBut _ _ c3 (s1.extBut _ _ c1 q))) he)
theorem next_zipL_item {z : Addr} {TI TO : Addr} {f0 : Value} {f1 : Bool} {Q : Option Value → Shared → Prop} (hz : ZipP s.heap z TI TO f0 f1) (h : ∀ A' E', wpAny (model prog w) A' (Builtin.«zip.__next__» ⟨[.ref z], []⟩) (fun fin s' => ∃ v, fin = .done (.ret v) ∧ Q (some v) s') E' s) :
    wpAny (model prog w) A (pyNext (.ref z)) Q E s := by
  have hT : s.TypeIs (.ref z) "zip" := ⟨_, hz, rfl⟩
  unfold pyNext
  refine wpAny_bind (wpAny_attempt (wpAny_callSpecial?_slot (name := Str.ofString "__next__") hT F.slot_zip_next (wpAny_call_entry F.slot_zip_next hT F.entry_zip_next (wpAny_mono (h _ _) (fun fin s' q => ?_) fun _ _ e => e) (F.args_zip_next_1 _))))
  obtain ⟨v, rfl, q⟩ := q
  exact ⟨v, rfl, wpAny_pure q⟩
theorem next_zipL_end {z TI TO : Addr} {f0 : Value} {f1 : Bool} {Q : Option Value → Shared → Prop} (hz : ZipP s.heap z TI TO f0 f1) (hh : A.handled = none)
    (h : ∀ A' (Q' : Fin → Shared → Prop) (E' : Value → Shared → Prop), A'.handled = none → (∀ e s', (∃ o, s'.heap.get? e = some o ∧ o.cls = .type "StopIteration") → Q none s' → E' (.ref e) s') → wpAny (model prog w) A' (Builtin.«zip.__next__» ⟨[.ref z], []⟩) Q' E' s) :
    wpAny (model prog w) A (pyNext (.ref z)) Q E s := by
  have hT : s.TypeIs (.ref z) "zip" := ⟨_, hz, rfl⟩
  unfold pyNext
  refine wpAny_bind (wpAny_attempt (wpAny_callSpecial?_slot (name := Str.ofString "__next__") hT F.slot_zip_next (wpAny_call_entry F.slot_zip_next hT F.entry_zip_next (h _ _ _ hh fun e s' ho q => ?_) (F.args_zip_next_1 _))))
  obtain ⟨o, ho, hc⟩ := ho
  exact wpAny_bind (wpAny_isInstance (T := "StopIteration") (b := true) ⟨o, ho, hc⟩ isSubtype_stop (wpAny_pure q))
theorem iter_zipL {z TI TO : Addr} {f0 : Value} {f1 : Bool} {Q : Value → Shared → Prop} (hz : ZipP s.heap z TI TO f0 f1) (h : Q (.ref z) s) : wpAny (model prog w) A (pyIter (.ref z)) Q E s := by
  have hT : s.TypeIs (.ref z) "zip" := ⟨_, hz, rfl⟩
  refine wpAny_pyIter_slot hT F.slot_zip_iter (wpAny_call_entry F.slot_zip_iter hT F.entry_zip_iter ?_ (F.args_zip_iter_1 _))
  show wpAny _ _ (ret (.ref z)) _ _ s
  exact wpAny_pure ⟨_, rfl, "zip", _, hT, F.slot_zip_next.lookup, h⟩
end
end PySem
set_option Elab.async false
set_option linter.all false
set_option maxRecDepth 100000
set_option maxHeartbeats 4000000
namespace PySem
open Sem (wp)
namespace ZK
theorem entry_ga : entryFor table "zip.__getattribute__" = some Builtin.«object.__getattribute__» :=
  entryFor_alias (id' := "object.__getattribute__") (by kernel_rfl) (by first | rfl | decide +kernel | (unfold String.splitOn; simp +decide [String.splitOnAux])) (by decide +kernel) (by kernel_rfl)
theorem ga_none : typeLookup (.type "zip") "__getattr__" = pure none := am_miss_of_fast (by kernel_rfl)
theorem keys_none : typeLookup (.type "zip") "keys" = pure none := am_miss_of_fast (by kernel_rfl)
end ZK
theorem meets_miss_zip (z : Addr) (fs : Array Value) (u : Tok) : Meets (Builtin.«object.__getattribute__» ⟨[.ref z, .str "keys" u], []⟩) fun A R s => s.heap.get? z = some { cls := .type "zip", dict := none, data := .fields fs, slots := #[] } ∧ raisesAttr (.ref z) "keys" A R s :=
  .of_wp fun prog w A R s h => by
    obtain ⟨hp, g, d, tk, os⟩ := s
    obtain ⟨q, hh, h⟩ := h
    have hz : Heap.get? (Shared.heap ⟨hp, g, d, tk, os⟩) z = some { cls := .type "zip", dict := none, data := .fields fs, slots := #[] } := q
    have f1 := ZK.keys_none
    have hT : Shared.TypeIs ⟨hp, g, d, tk, os⟩ (.ref z) "zip" := ⟨_, hz, rfl⟩
    wp_walk
    exact wpAny_raiseAttrError (show A.in1.handled = none from hh) (fun h' tk' e x => h h' tk' e x) (by decide +kernel)
section
variable {prog : Program} {w : World} {A : Around} {E : Value → Shared → Prop} {s : Shared}
theorem zip_nokeys {z : Addr} {fs : Array Value} {Q : Option Value → Shared → Prop} (hh : A.handled = none) (hz : s.heap.get? z = some { cls := .type "zip", dict := none, data := .fields fs, slots := #[] })
    (K : ∀ g tk, (∀ b o, s.heap.get? b = some o → g.get? b = some o) → Q none { s with heap := g, toks := tk }) : wpAny (model prog w) A (getAttr? (.ref z) "keys") Q E s := by
  obtain ⟨hp, g, d, tk, os⟩ := s
  have q : Heap.get? (Shared.heap ⟨hp, g, d, tk + 1, os⟩) z = some { cls := .type "zip", dict := none, data := .fields fs, slots := #[] } := hz
  have hT : Shared.TypeIs ⟨hp, g, d, tk + 1, os⟩ (.ref z) "zip" := ⟨_, q, rfl⟩
  have f1 := sub_AttributeError
  have f3 := F.slot_zip_getattribute.lookup
  have f4 := F.slot_zip_getattribute.bind (.ref z)
  have f5 := ZK.ga_none
  have C : ∀ {A' : Around} {E' : Value → Shared → Prop} {Q' : Value → Shared → Prop}, A'.handled = none → (∀ h' tk' e, Heap.NewAttrErr hp h' e (.ref z) "keys" → E' (.ref e) ⟨h', g, d, tk', os⟩) → wpAny (model prog w) A' (call (.builtin "zip.__getattribute__") [.ref z, .str "keys" tk]) Q' E' ⟨hp, g, d, tk + 1, os⟩ := fun h1 h2 =>
    call_meets F.slot_zip_getattribute hT ZK.entry_ga (F.args_zip_getattribute_2 _ _) (meets_miss_zip z fs tk) ⟨q, h1, h2⟩
  unfold getAttr? getAttrBy?
  refine wpAny_bind (wpAny_mkText (wpAny_bind (wpAny_attempt ?_)))
  unfold getAttrBy
  refine wpAny_holding (wpAny_bind (wpAny_typeOf hT (wpAny_bind (wpAny_of_eq f3 ?_))))
  show wpAny _ _ (if (onTheHeap (Value.type "zip") && Value.builtin "zip.__getattribute__" == Value.builtin "object.__getattribute__") = true then _ else _) _ _ _
  rw [if_neg (by decide)]
  unfold getAttrByItsOwn
  refine wpAny_bind (m := hookBefore _) (wpAny_pure (wpAny_bind (wpAny_attempt (wpAny_holding ?_))))
  refine wpAny_bind (m := bindSpecial _ _) (wpAny_of_eq f4 (C hh fun h' tk' e x => ?_))
  obtain ⟨t', u', he⟩ := x.there
  have hE : Shared.TypeIs ⟨h', g, d, tk', os⟩ (.ref e) "AttributeError" := ⟨_, he, rfl⟩
  dsimp only
  unfold getattributeRaised
  refine wpAny_bind (wpAny_isInstance hE f1 ?_)
  rw [if_pos rfl]
  refine wpAny_bind (m := hookBehind _ _) (wpAny_of_eq f5 ?_)
  unfold hookOrError
  dsimp only
  wp_walk
  exact K _ _ x.keeps
end
end PySem
set_option Elab.async false
set_option linter.all false
set_option maxRecDepth 100000
set_option maxHeartbeats 4000000
namespace PySem
open Sem (wp)
namespace ZK
theorem entry_loop : entryFor table "dict.update.loop" = some Builtin.«dict.update.loop» := entryFor_of_tree (by kernel_rfl)
theorem plain_loop : plainId "dict.update.loop" = true := by decide +kernel
end ZK
section
variable {prog : Program} {w : World} {A : Around} {E : Value → Shared → Prop} {s : Shared}
theorem pair_items {T : Addr} {x y : Value} {Q : List Value → Shared → Prop} (h : IsPair s.heap T x y) (q : Q [x, y] s) : wpAny (model prog w) A (Builtin.Dict.pairItems (.ref T)) Q E s := by
  have hT : s.TypeIs (.ref T) "tuple" := ⟨_, h, rfl⟩
  unfold Builtin.Dict.pairItems
  refine wpAny_bind (wpAny_typeOf hT ?_)
  rw [if_pos (by decide)]
  obtain ⟨hp, g, d, tk, os⟩ := s
  wp_walk
  exact q
def ZipSt (h : Heap) (z TI TO i1 i2 l1 l2 : Addr) (xs ys : Array Value) (k : Nat) : Prop :=
  ∃ f0 f1, ZipP h z TI TO f0 f1 ∧ ((f0 = .none ∧ f1 = false) ∨ ∃ (T : Addr) (o : Obj), f0 = rawInt T ∧ h.get? T = some o) ∧ ZipL h TI i1 i2 l1 l2 xs ys k ∧ ∃ a b, IsPair h TO a b
theorem ZipSt.next {z TI TO i1 i2 l1 l2 : Addr} {xs ys : Array Value} {k : Nat} {x y : Value} {Q : Option Value → Shared → Prop} (D : ZipApart z TI TO i1 i2 l1 l2) (S : ZipSt s.heap z TI TO i1 i2 l1 l2 xs ys k) (hx : xs[k]? = some x) (hy : ys[k]? = some y)
    (K : ∀ g, ZipSt g z TI TO i1 i2 l1 l2 xs ys (k + 1) → IsPair g s.heap.objs.size x y → g.objs.size = s.heap.objs.size + 1 → (∀ b o, b ≠ z → b ≠ TO → b ≠ i1 → b ≠ i2 → s.heap.get? b = some o → g.get? b = some o) → Q (some (.ref s.heap.objs.size)) { s with heap := g }) :
    wpAny (model prog w) A (pyNext (.ref z)) Q E s := by
  obtain ⟨f0, f1, hz, hf, c, a, b, ho⟩ := S
  rcases hf with ⟨rfl, rfl⟩ | ⟨T, oT, rfl, hT⟩
  · exact next_zipL_item hz fun A' E' => zipL_free D hz c ho hx hy fun g z1 o1 c1 n1 sz fr => K g ⟨_, _, z1, .inr ⟨_, _, rfl, n1⟩, c1, _, _, o1⟩ n1 sz fr
  · refine next_zipL_item hz fun A' E' => zipL_held D hz c hT hx hy fun g z1 c1 n1 sz fr => K g ⟨_, _, z1, .inr ⟨T, ?_⟩, c1, a, b, fr _ _ D.TOz D.TOi1 D.TOi2 ho⟩ n1 sz fun b o c1 _ c3 c4 e => fr b o c1 c3 c4 e
    by_cases e1 : T = z
    · subst e1; exact ⟨_, rfl, z1⟩
    · by_cases e2 : T = i1
      · obtain ⟨o, h1, _⟩ := c1.a1; exact ⟨o, rfl, e2 ▸ h1⟩
      · by_cases e3 : T = i2
        · obtain ⟨o, h1, _⟩ := c1.a2; exact ⟨o, rfl, e3 ▸ h1⟩
        · exact ⟨oT, rfl, fr _ _ e1 e2 e3 hT⟩
theorem ZipSt.fin {z TI TO i1 i2 l1 l2 : Addr} {xs ys : Array Value} {k : Nat} {Q : Option Value → Shared → Prop} (hh : A.handled = none) (D : ZipApart z TI TO i1 i2 l1 l2) (S : ZipSt s.heap z TI TO i1 i2 l1 l2 xs ys k) (hend : xs[k]? = none ∨ ys[k]? = none)
    (K : ∀ g, (∀ b o, b ≠ z → b ≠ TO → b ≠ i1 → b ≠ i2 → s.heap.get? b = some o → g.get? b = some o) → Q none { s with heap := g }) :
    wpAny (model prog w) A (pyNext (.ref z)) Q E s := by
  obtain ⟨f0, f1, hz, hf, c, a, b, ho⟩ := S
  exact next_zipL_end hz hh fun A' Q' E' h1 h2 => zipL_end h1 D hz hf c ho hend fun g e fr he => h2 e _ he (K g fr)
theorem ZipSt.put {h g : Heap} {d z TI TO i1 i2 l1 l2 : Addr} {xs ys : Array Value} {k : Nat} (S : ZipSt h z TI TO i1 i2 l1 l2 xs ys k) (hd : d ∉ [z, TI, TO, i1, i2, l1, l2]) (e : ∀ b o, b ≠ d → h.get? b = some o → g.get? b = some o) (hg : ∃ o, g.get? d = some o) : ZipSt g z TI TO i1 i2 l1 l2 xs ys k := by
  obtain ⟨f0, f1, hz, hf, c, a, b, ho⟩ := S
  simp only [List.mem_cons, List.not_mem_nil, or_false, not_or] at hd
  obtain ⟨d1, d2, d3, d4, d5, d6, d7⟩ := hd
  refine ⟨f0, f1, e _ _ (Ne.symm d1) hz, hf.imp id ?_, c.put (z := z) (TO := TO) fun b hb o => e b o ?_, a, b, e _ _ (Ne.symm d3) ho⟩
  · rintro ⟨T, o, h1, h2⟩
    by_cases hT : T = d
    · subst hT; obtain ⟨o', h3⟩ := hg; exact ⟨T, o', h1, h3⟩
    · exact ⟨T, o, h1, e _ _ hT h2⟩
  · rcases hb with rfl | rfl | rfl | rfl | rfl
    · exact Ne.symm d2
    · exact Ne.symm d4
    · exact Ne.symm d5
    · exact Ne.symm d6
    · exact Ne.symm d7
def stAll {K : Type} [DecidableEq K] : List (K × Value) → List K → List Value → List (K × Value)
  | kvs, k :: ks, y :: ys => stAll (stored kvs k y) ks ys
  | kvs, _, _ => kvs
theorem stored_len {K : Type} [DecidableEq K] {kvs : List (K × Value)} {k : K} {v : Value} : (stored kvs k v).length ≤ kvs.length + 1 := by
  unfold stored
  split
  · simp
  · simp
theorem dict_loop {K : Type} [DecidableEq K] {knd : KeyKind prog w K} {d z TI TO i1 i2 l1 l2 : Addr} {xs ys : Array Value} {h0 : Heap} {R : Result → Shared → Prop} (D : ZipApart z TI TO i1 i2 l1 l2) (hd : d ∉ [z, TI, TO, i1, i2, l1, l2]) (hh : A.handled = none) (hz : xs.size = ys.size) : ∀ (ks : List K) (i : Nat) (kvs : List (K × Value)) (s : Shared),
    ks.length + i = xs.size → (∀ j k, ks[j]? = some k → ∃ x, xs[i + j]? = some x ∧ knd.is k x = true) → kvs.length + ks.length ≤ sizeLine → s.heap.DictOf knd d kvs → ZipSt s.heap z TI TO i1 i2 l1 l2 xs ys i → (∀ b o, b ≠ d → b ≠ z → b ≠ TO → b ≠ i1 → b ≠ i2 → h0.get? b = some o → s.heap.get? b = some o) →
    (∀ g tk, g.DictOf knd d (stAll kvs ks (ys.toList.drop i)) → (∀ b o, b ≠ d → b ≠ z → b ≠ TO → b ≠ i1 → b ≠ i2 → h0.get? b = some o → g.get? b = some o) → R (.ok (.ret .none)) { s with heap := g, toks := tk }) →
    codeAny (model prog w) A (.builtin "dict.update.loop" ⟨[.ref d, .ref z, rawInt i, .none], []⟩) R s
  | [], i, kvs, s, hl, hk, hs, dd, S, fr, fin => by
    refine codeAny_builtin ZK.entry_loop ?_
    rw [Around.under_plainId ZK.plain_loop _]
    have hi : i = xs.size := by simpa using hl
    refine wpAny_bind (ZipSt.fin (A := A.in1) hh D S (.inl (Array.getElem?_eq_none_iff.mpr (by omega))) fun g fr2 => ?_)
    refine wpAny_bind (m := Builtin.Dict.addKeywords d []) (wpAny_pure (wpAny_pure ?_))
    have e1 : d ≠ z := fun e => hd (by simp [e])
    have e2 : d ≠ TO := fun e => hd (by simp [e])
    have e3 : d ≠ i1 := fun e => hd (by simp [e])
    have e4 : d ≠ i2 := fun e => hd (by simp [e])
    exact fin g _ (dd.at fun o e => fr2 d o e1 e2 e3 e4 e) fun b o a1 a2 a3 a4 a5 e => fr2 b o a2 a3 a4 a5 (fr b o a1 a2 a3 a4 a5 e)
  | k :: ks, i, kvs, s, hl, hk, hs, dd, S, fr, fin => by
    refine codeAny_builtin ZK.entry_loop ?_
    rw [Around.under_plainId ZK.plain_loop _]
    obtain ⟨x, hx, kx⟩ := hk 0 k rfl
    rw [Nat.add_zero] at hx
    have hi : i < xs.size := by rw [List.length_cons] at hl; omega
    have hy : ys[i]? = some ys[i] := Array.getElem?_eq_getElem (by omega)
    have e1 : d ≠ z := fun e => hd (by simp [e])
    have e2 : d ≠ TO := fun e => hd (by simp [e])
    have e3 : d ≠ i1 := fun e => hd (by simp [e])
    have e4 : d ≠ i2 := fun e => hd (by simp [e])
    refine wpAny_bind (ZipSt.next (A := A.in1) D S hx hy fun g S1 n1 sz fr1 => ?_)
    refine wpAny_bind (wpAny_holding (wpAny_bind (wpAny_tryCatch (pair_items n1 ?_))))
    refine wpAny_holding (wpAny_dictSet_pairs kx (dd.at fun o e => fr1 d o e1 e2 e3 e4 e) (fun g2 d2 s2 => ?_) (by rw [List.length_cons] at hs; omega))
    refine wpAny_pure ⟨plainId_quiet ZK.plain_loop _, ?_⟩
    have ei : rawInt ((i : Int) + 1) = rawInt ((i + 1 : Nat) : Int) := by simp
    show codeAny _ _ (.builtin "dict.update.loop" ⟨[.ref d, .ref z, rawInt ((i : Int) + 1), .none], []⟩) _ _
    rw [ei]
    refine dict_loop D hd hh hz ks (i + 1) (stored kvs k ys[i]) _ (by rw [List.length_cons] at hl; omega) (fun j k' e => ?_) ?_ d2 (S1.put hd (fun b o hb e => s2.extBut _ _ hb e) (let ⟨o, _, _, e, _⟩ := d2; ⟨o, e⟩)) (fun b o a1 a2 a3 a4 a5 e => s2.extBut _ _ a1 (fr1 b o a2 a3 a4 a5 (fr b o a1 a2 a3 a4 a5 e))) fun g3 tk3 d3 f3 => ?_
    · obtain ⟨x', h1, h2⟩ := hk (j + 1) k' (by simpa using e)
      exact ⟨x', by rw [show i + 1 + j = i + (j + 1) by omega]; exact h1, h2⟩
    · have := stored_len (kvs := kvs) (k := k) (v := ys[i])
      rw [List.length_cons] at hs
      omega
    · refine fin g3 tk3 ?_ f3
      rw [List.drop_eq_getElem_cons (by rw [Array.length_toList]; omega)]
      exact d3
end
end PySem
set_option Elab.async false
set_option linter.all false
set_option maxRecDepth 100000
set_option maxHeartbeats 4000000
namespace PySem
open Sem (wp)
section
variable {prog : Program} {w : World} {A : Around} {E : Value → Shared → Prop} {s : Shared}
theorem stAll_new {K : Type} [DecidableEq K] : ∀ {ks : List K} {us : List Value} {kvs : List (K × Value)}, ks.length = us.length → (kvs.map (·.1) ++ ks).Nodup → stAll kvs ks us = kvs ++ ks.zip us
  | [], us, kvs, h, _ => by simp [stAll]
  | k :: ks, [], kvs, h, _ => by simp at h
  | k :: ks, u :: us, kvs, h, n => by
    have hk : (kvs.any fun kv => decide (kv.1 = k)) = false := by
      rw [List.any_eq_false]
      intro p hp
      have : p.1 ≠ k := fun e => by
        have := (List.nodup_append.mp n).2.2 p.1 (List.mem_map.mpr ⟨p, hp, rfl⟩) k (by simp)
        exact this e
      simpa using this
    have e : stored kvs k u = kvs ++ [(k, u)] := by unfold stored; rw [if_neg (by rw [hk]; exact Bool.false_ne_true)]
    rw [stAll, e, stAll_new (by simpa using h) (by simpa using n)]
    simp
theorem call_dictZip {K : Type} [DecidableEq K] {knd : KeyKind prog w K} {z TI TO i1 i2 l1 l2 : Addr} {xs ys : Array Value} {ks : List K} {Q : Value → Shared → Prop} (D : ZipApart z TI TO i1 i2 l1 l2) (hh : A.handled = none) (hz : xs.size = ys.size) (hl : ks.length = xs.size) (hn : ks.Nodup) (hs : ks.length ≤ sizeLine) (hk : ∀ (j : Nat) (k : K), ks[j]? = some k → ∃ x, xs[j]? = some x ∧ knd.is k x = true)
    (S : ZipSt s.heap z TI TO i1 i2 l1 l2 xs ys 0)
    (fin : ∀ g tk, g.DictOf knd s.heap.objs.size (ks.zip ys.toList) → (∀ b o, b ≠ z → b ≠ TO → b ≠ i1 → b ≠ i2 → s.heap.get? b = some o → g.get? b = some o) → Q (.ref s.heap.objs.size) { s with heap := g, toks := tk }) :
    wpAny (model prog w) A (call (.type "dict") [.ref z]) Q E s := by
  have hzz : z < s.heap.objs.size := by obtain ⟨_, _, h, _⟩ := S; exact Heap.lt_size h
  have hd : s.heap.objs.size ∉ [z, TI, TO, i1, i2, l1, l2] := by
    obtain ⟨_, _, h, _, c, _, _, ho⟩ := S
    have a1 := Heap.lt_size h
    have a2 := Heap.lt_size c.pr
    have a3 := Heap.lt_size ho
    obtain ⟨_, b1, _⟩ := c.a1
    obtain ⟨_, b2, _⟩ := c.a2
    obtain ⟨_, b3, _⟩ := c.b1
    obtain ⟨_, b4, _⟩ := c.b2
    have a4 := Heap.lt_size b1
    have a5 := Heap.lt_size b2
    have a6 := Heap.lt_size b3
    have a7 := Heap.lt_size b4
    intro e
    simp only [List.mem_cons, List.not_mem_nil, or_false] at e
    rcases e with e | e | e | e | e | e | e
    all_goals first | exact Nat.ne_of_gt a1 e | exact Nat.ne_of_gt a2 e | exact Nat.ne_of_gt a3 e | exact Nat.ne_of_gt a4 e | exact Nat.ne_of_gt a5 e | exact Nat.ne_of_gt a6 e | exact Nat.ne_of_gt a7 e
  refine callType_codes (Q₁ := fun obj s₁ => obj = .ref s.heap.objs.size ∧ s₁ = { s with heap := s.heap.push { cls := .type "dict", data := .dict #[] } }) F.kt_called_dict (F.kt_typeCall_dict_1 _) F.entry_dict_init (kt_code_dict_new _ ⟨rfl, rfl⟩) fun obj s₁ h₁ => ?_
  obtain ⟨rfl, rfl⟩ := h₁
  have hT : Shared.TypeIs { s with heap := s.heap.push { cls := .type "dict", data := .dict #[] } } (.ref s.heap.objs.size) "dict" := ⟨_, Heap.get?_push_size _ rfl, rfl⟩
  refine ⟨hT, F.args_dict_init_2 _ _, ?_⟩
  have S1 : ZipSt (s.heap.push { cls := .type "dict", data := .dict #[] }) z TI TO i1 i2 l1 l2 xs ys 0 := S.put hd (fun b o _ e => Heap.get?_push_of_some _ e) ⟨_, Heap.get?_push_size _ rfl⟩
  obtain ⟨f0, f1, hzz1, _⟩ := id S1
  have tz : Shared.TypeIs { s with heap := s.heap.push { cls := .type "dict", data := .dict #[] } } (.ref z) "zip" := ⟨_, hzz1, rfl⟩
  unfold Builtin.«dict.__init__»
  refine wpAny_bind (m := Builtin.Dict.selfAndRest "__init__" _) ?_
  unfold Builtin.Dict.selfAndRest
  refine wpAny_bind (m := Builtin.Dict.notOrdered "__init__" _) ?_
  unfold Builtin.Dict.notOrdered
  rw [if_pos (by decide +kernel)]
  refine wpAny_bind (wpAny_typeOf hT ?_)
  rw [if_neg (by decide)]
  refine wpAny_pure ?_
  refine wpAny_bind (m := Builtin.Dict.addrOf (.ref s.heap.objs.size)) (wpAny_pure (wpAny_pure ?_))
  show wpAny _ _ (Builtin.Dict.updateFrom "dict.__init__" s.heap.objs.size (.ref z) [] .none) _ _ _
  unfold Builtin.Dict.updateFrom
  refine wpAny_bind (wpAny_typeOf tz ?_)
  rw [if_pos (by decide)]
  refine wpAny_bind (zip_nokeys (show A.in1.in1.handled = none from hh) hzz1 fun g tk kp => ?_)
  rw [if_pos (show (none : Option Value).isNone = true from rfl)]
  have S2 : ZipSt g z TI TO i1 i2 l1 l2 xs ys 0 := S1.put hd (fun b o _ e => kp b o e) ⟨_, kp _ _ (Heap.get?_push_size _ rfl)⟩
  obtain ⟨f0', f1', hzz2, _⟩ := id S2
  refine wpAny_bind (wpAny_rule (wpAny_bind (iter_zipL hzz2 (wpAny_pure ⟨plainId_quiet ZK.plain_loop _, ?_⟩))))
  have d0 : Heap.DictOf knd g s.heap.objs.size [] := Heap.DictOf.at (Heap.DictOf.new ..) fun o e => kp _ o e
  refine dict_loop (A := A.in1) (knd := knd) (h0 := s.heap) D hd hh hz ks 0 [] _ (by simpa using hl) (fun j k e => by rw [Nat.zero_add]; exact hk j k e) (by simpa using hs) d0 S2 (fun b o _ _ _ _ _ e => kp _ _ (Heap.get?_push_of_some _ e)) fun g3 tk3 d3 f3 => ?_
  refine ⟨rfl, fin g3 tk3 ?_ fun b o a1 a2 a3 a4 e => f3 b o (Nat.ne_of_lt (Heap.lt_size e)) a1 a2 a3 a4 e⟩
  rw [List.drop_zero, stAll_new (by rw [hl, hz, Array.length_toList]) (by simpa using hn), List.nil_append] at d3
  exact d3
end
end PySem
set_option Elab.async false
set_option linter.all false
set_option maxRecDepth 100000
set_option maxHeartbeats 4000000
namespace L3
open PySem PySem.Spec PySem.Calls PyProof.Rows L2
theorem kv_zip : ∀ {ks : List Key} {xs : List V} {us : List Value}, Vals xs us → KV (ks.zip xs) (ks.zip us)
  | [], _, _, _ => .nil
  | k :: ks, _, _, .nil => .nil
  | k :: ks, _, _, .cons r t => by
    rw [List.zip_cons_cons, List.zip_cons_cons]
    exact .cons ⟨rfl, r⟩ (kv_zip t)
section
variable {X : Cx} {Γ : Ga} {ds : List D} {ks : List Key} {pos p pos' p' : Pos} {a b : Expr}
theorem p_dictZip (hc : X.calm = true) (hm : X.mg "dict" = none) (hg : Gl X "dict") (hm2 : X.mg "zip" = none) (hg2 : Gl X "zip") (ha : P3 X Γ a (.lst (ks.map keyD))) (hb : P3 X Γ b (.lst ds)) (hn : ks.Nodup) (hl : ks.length = ds.length) (hz : ks.length ≤ sizeLine) (hs : starEach [a, b] X.env = [(false, eval a X.env), (false, eval b X.env)] := by rfl) (hs2 : starEach [b] X.env = [(false, eval b X.env)] := by rfl)
    (he : starEach [.Call (.Name "zip" p') [a, b] [] pos'] X.env = (false, eval (.Call (.Name "zip" p') [a, b] [] pos') X.env) :: starEach [] X.env := by rfl) : P3 X Γ (.Call (.Name "dict" p) [.Call (.Name "zip" p') [a, b] [] pos'] [] pos) (.dk ks ds) := by
  intro pins s σ H Q I ⟨F, fh, sl, q⟩
  have pl := pl_cons ha (pl_cons hb pl_nil hs2) (hs.trans (by rw [hs2]))
  refine wpAny_Call_Name_kw (ld_blt I hg hm bt_dict (PyProof.Rows.callWith_type1 ?_ he))
  rw [he]
  show wpAny _ _ (spliced ((false, eval (.Call (.Name "zip" p') [a, b] [] pos') X.env) :: backTo pos (starEach [] X.env))) _ _ s
  refine Calls.spliced_cons (Call_ (ld_blt I hg2 hm2 boot_zip (PyProof.Rows.callWith_type1 (thn (pl pos' pins s σ H (fun vs H' => ∃ F', Pur F H F' H' ∧ IsL X.K F' [.lst (ks.map keyD), .lst ds] vs) I ⟨F, fh, sl, fun vs H' F' pu iv => ⟨F', pu, iv⟩⟩) fun us s1 ⟨vs, H1, I1, r1, q1⟩ => ?_) (by rw [hs, hs2]) (by rw [hs2]; rfl))))
  obtain ⟨F1, pu, iv⟩ := q1
  obtain ⟨x, y, rfl, j0, j00⟩ := isL2 iv
  obtain ⟨l1, xs, rfl, s1', j1⟩ := isLst j0
  obtain ⟨l2, ys, rfl, s2', j2⟩ := isLst j00
  have ek := is_keys j1
  subst ek
  cases r1 with
  | cons r rr =>
    cases rr with
    | cons r' rr =>
      cases rr
      cases r
      cases r'
      obtain ⟨its1, rv1, p1, z1⟩ := I1.list (pu.fh.seq s1')
      obtain ⟨its2, rv2, p2, z2⟩ := I1.list (pu.fh.seq s2')
      have lt1 : l1 < s1.heap.objs.size := by obtain ⟨_, e, _⟩ := p1.isList; exact Heap.lt_size e
      have lt2 : l2 < s1.heap.objs.size := by obtain ⟨_, e, _⟩ := p2.isList; exact Heap.lt_size e
      have L1 := rv1.length
      rw [List.length_map] at L1
      have L2 := rv2.length
      have L3 := j2.len
      refine call_zip_2 p1.isList p2.isList fun g g1 g2 g3 g4 g5 sz kp => ?_
      have e5 : ({ s1 with heap := g } : Shared).heap.objs.size = s1.heap.objs.size + 5 := sz
      have ge : s1.heap.objs.size ≤ g.objs.size := by rw [sz]; omega
      refine Calls.spliced_nil (call_dictZip (knd := mixKind X.prog X.w) (xs := its1.toArray) (ys := its2.toArray) (ks := ks) (zipApart_new lt1 lt2) (I1.ok.hd hc) (by simp; omega) (by simp; omega) hn hz (fun j k e => ?_) ⟨_, _, g1, .inl ⟨rfl, rfl⟩, ⟨g2, g4, g5, p1.isList.at fun o e => kp _ o e, p2.isList.at fun o e => kp _ o e⟩, _, _, g3⟩ fun g' tk d' f' => ?_)
      · obtain ⟨u, e1, e2⟩ := rv1.get (i := j) (x := kV k) (by rw [List.getElem?_map, e]; rfl)
        exact ⟨u, by simpa using e1, kV_is e2⟩
      · have fresh : H1 g.objs.size = none := I1.hok.fresh ge
        have kp' : ∀ b o, s1.heap.get? b = some o → g'.get? b = some o := fun b o e => by
          have := Heap.lt_size e
          exact f' b o (Nat.ne_of_lt (Nat.lt_add_right 4 this)) (Nat.ne_of_lt (Nat.lt_add_right 3 this)) (Nat.ne_of_lt this) (Nat.ne_of_lt (Nat.lt_add_right 1 this)) (kp b o e)
        have hsm : (g.objs.size == sysModules) = false := beq_eq_false_iff_ne.mpr (Ne.symm (Nat.ne_of_lt (Nat.lt_of_lt_of_le I1.big ge)))
        have I2 : Inv X pins σ (upd H1 g.objs.size (.dK (ks.zip ys))) { s1 with heap := g', toks := tk } := I1.laid (t' := tk) kp' ge ⟨by rw [List.length_zip]; omega, hsm, _, kv_zip rv2, d'⟩
        obtain ⟨ob, _, _, hob, _⟩ := id d'
        have I3 := I2.known upd_same rfl hob
        have eu : upd (upd H1 g.objs.size (.dK (ks.zip ys))) g.objs.size (.frz ob (.dK (ks.zip ys))) = upd H1 g.objs.size (.frz ob (.dK (ks.zip ys))) := by
          funext c
          by_cases hcc : c = g.objs.size
          · subst hcc; rw [upd_same, upd_same]
          · rw [upd_ne hcc, upd_ne hcc, upd_ne hcc]
        rw [eu] at I3
        refine ⟨.ref g.objs.size, _, I3, rfl, q _ _ _ (pu.trans (Pur.lay pu.fh fresh)) ?_⟩
        simp only [Is]
        exact ⟨_, ys, ob, rfl, upd_same, by omega, j2.mono (Pur.lay pu.fh fresh).ff⟩
end
end L3
set_option Elab.async false
set_option linter.all false
set_option maxRecDepth 100000
set_option maxHeartbeats 4000000
namespace L3
open PySem PySem.Spec PySem.Calls PyProof.Rows L2
theorem hard_dt {K : PySem.W.Frag} {kt : List (List Key)} {ds : List D} {L : Bool} : ∀ F o, oDt K kt ds F o → isHard L o = true := fun F o ⟨xs, e, _⟩ => by subst e; rfl
def LentS (K : PySem.W.Frag) (B : Bs) (Ω : Om) (Γ Γ' : Ga) : Prop := ∀ F σ H, Sat K B Γ Ω F σ H → Sl K (addF Ω F H) Γ' σ
theorem IsL.same {K : PySem.W.Frag} {F : Hp} {ds : List D} {xs : List V} {j : Nat} {b : Addr} (il : IsL K F ds xs) (hj : ds[j]? = some (.raw (.ref b))) : xs.set j (V.ref b) = xs := by
  obtain ⟨x, hx, ix⟩ := il.get hj
  rw [isR ix] at hx
  refine List.ext_getElem? fun i => ?_
  rw [List.getElem?_set]
  split
  · rename_i e
    subst e
    rw [if_pos (List.getElem?_eq_some_iff.mp hx).1, hx]
  · rfl
section
variable {K : PySem.W.Frag} {B : Bs} {Γ Γ' : Ga} {Ω : Om} {C : Addr} {fs : List Str} {ds vs : List D} {kt : List (List Key)} {a b : Addr} {i j : Nat}
theorem lentS_of (h : Lent K Ω Γ Γ') : LentS K B Ω Γ Γ' := fun F σ H S => S.lent h
theorem lentS_obj (h : LentS K B Ω Γ Γ') (hi : Γ[i]? = some (some (.raw (.ref a)))) (ha : (a, oIns K C fs ds) ∈ Ω) (hj : ds[j]? = some (.raw (.ref b))) (hb : (b, oDt K kt vs) ∈ Ω) : LentS K B Ω Γ (Γ'.set i (some (.obj C fs (ds.set j (.dt kt vs))))) := fun F σ H S n d q => by
  rw [List.getElem?_set] at q
  by_cases hn : i = n
  · rw [if_pos hn] at q
    split at q
    · cases q
      subst hn
      obtain ⟨v, e1, e2⟩ := S.sl i _ hi
      cases isR e2
      obtain ⟨fa, o, h1, h2⟩ := S.own _ ha
      obtain ⟨dx, xs, rfl, hl, il⟩ := h2 F (Same.refl _)
      obtain ⟨fb, o', h3, h4⟩ := S.own _ hb
      obtain ⟨ys, rfl, hl', il'⟩ := h4 F (Same.refl _)
      refine ⟨_, e1, ?_⟩
      have ea : addF Ω F H a = some (.ins C dx (fs.zip xs)) := by unfold addF; rw [if_pos (List.mem_map.mpr ⟨_, ha, rfl⟩)]; exact h1
      have eb : addF Ω F H b = some (.dT (kt.zip ys)) := by unfold addF; rw [if_pos (List.mem_map.mpr ⟨_, hb, rfl⟩)]; exact h3
      have ib : Is K (addF Ω F H) (.dt kt vs) (.ref b) := by
        simp only [Is]
        exact ⟨b, ys, rfl, .inl eb, hl', il'.mono S.addSame⟩
      have := (il.mono S.addSame).set j ib
      rw [il.same hj] at this
      simp only [Is]
      exact ⟨a, dx, xs, rfl, ea, hl, this⟩
    · cases q
  · rw [if_neg hn] at q
    exact h F σ H S n d q
theorem Sat.freezeF {F : Hp} {σ : L2.St} {H : Hp} (hj : ds[j]? = some (.raw (.ref b))) (S : Sat K B Γ ((a, oIns K C fs ds) :: (b, oDt K kt vs) :: Ω) F σ H) : ∃ F', Sat K B Γ ((a, oIns K C fs (ds.set j (.dt kt vs))) :: Ω) F' σ H ∧ Same F F' := by
  have S1 : Sat K B Γ ((b, oDt K kt vs) :: (a, oIns K C fs ds) :: Ω) F σ H := S.perm (List.Perm.swap ..)
  obtain ⟨fa, o0, ha, ho⟩ := S1.own (b, oDt K kt vs) (by simp)
  obtain ⟨xs, rfl, hl, il⟩ := ho F (Same.refl _)
  have nin := (List.nodup_cons.mp S1.nd).1
  have w : Same F (upd F b (.dT (kt.zip xs))) := fun c u q => by rw [upd_ne (ne_of_none q fa)]; exact q
  have ib : Is K (upd F b (.dT (kt.zip xs))) (.dt kt vs) (.ref b) := by
    simp only [Is]
    exact ⟨b, xs, rfl, .inl upd_same, hl, il.mono w⟩
  refine ⟨upd F b (.dT (kt.zip xs)), ⟨S1.f0.trans w, fun c u q => ?_, fun c q => ?_, S1.kp, (List.nodup_cons.mp S1.nd).2, fun q hq => ?_, fun q hq => ?_, S1.sl.mono w⟩, w⟩
  · by_cases hb : c = b
    · subst hb; rw [upd_same] at q; cases q; exact ha
    · rw [upd_ne hb] at q; exact S1.fh _ _ q
  · by_cases hb : c = b
    · subst hb
      exact (S1.od (c, oDt K kt vs) (by simp)).elim (fun z => .inr (.inr z)) fun z => .inr (.inl z)
    · rw [upd_ne hb] at q; exact S1.fr c q
  · rcases List.mem_cons.mp hq with z | z
    · subst z; exact S1.od (a, oIns K C fs ds) (by simp)
    · exact S1.od q (List.mem_cons_of_mem _ (List.mem_cons_of_mem _ z))
  · rcases List.mem_cons.mp hq with z | z
    · subst z
      obtain ⟨h1, o', h2, h3⟩ := S1.own (a, oIns K C fs ds) (by simp)
      have ne : a ≠ b := fun e => nin (by simp [e])
      refine ⟨by rw [upd_ne ne]; exact h1, o', h2, fun F2 e => ?_⟩
      obtain ⟨dx, ys, rfl, hl', il'⟩ := h3 F2 (w.trans e)
      refine ⟨dx, ys, rfl, hl', ?_⟩
      have := il'.set j (ib.mono e)
      rwa [il'.same hj] at this
    · obtain ⟨h1, o', h2, h3⟩ := S1.own q (List.mem_cons_of_mem _ (List.mem_cons_of_mem _ z))
      have ne : q.1 ≠ b := fun e => nin (List.mem_map.mpr ⟨q, List.mem_cons_of_mem _ z, e⟩)
      exact ⟨by rw [upd_ne ne]; exact h1, o', h2, fun F2 e => h3 F2 (w.trans e)⟩
end
section
variable {X : Cx} {B : Bs} {Γ Γ' : Ga} {Ω : Om} {E : E3} {sts : List Stmt} {e tg : Expr} {d : D} {k : Bool} {R : D → Om → Prop} {RT : Bool → Om → Prop} {RL : List D → Om → Prop} {L : Bool} {C : Addr} {fs : List Str} {ds vs : List D} {kt : List (List Key)} {a b : Addr} {j : Nat} {pos : Pos}
theorem v_lendS (h : P3 X Γ' e d) (hl : LentS X.K B Ω Γ Γ') (hd : Hard L Ω) (hs : solid L d = true) (r : R d Ω) : V3 X B e Γ Ω R := fun F σ H S =>
  h.we ⟨addF Ω F H, S.addSub, hl F σ H S, fun v H' F' p i => ⟨d, Ω, subF Ω F', S.pur (S.back p), (S.back p).ff, is_sub (S.hard hd p) hs i, r⟩⟩
theorem w_frzF (hj : ds[j]? = some (.raw (.ref b))) (h : W3 X B sts Γ ((a, oIns X.K C fs (ds.set j (.dt kt vs))) :: Ω) E) : W3 X B sts Γ ((a, oIns X.K C fs ds) :: (b, oDt X.K kt vs) :: Ω) E := fun F σ H S => by
  obtain ⟨F', S', f⟩ := S.freezeF hj
  exact to_mono f (h F' σ H S')
theorem p_newT : P3 X Γ (.Dict [] [] pos) (.dt [] []) := fun pins s σ H Q I ⟨F, fh, sl, q⟩ =>
  pe_dnewT pins s σ H _ I fun l hl => q _ _ _ (Pur.lay fh hl) (by simp only [Is]; exact ⟨l, [], rfl, .inl upd_same, rfl, IsL.nil⟩)
theorem iv_dict (h : V3 X B e Γ Ω fun d Ω1 => ∃ ks ds, d = .dk ks ds ∧ RL (ks.map keyD) Ω1) : IV3 X B tg e Γ Ω RL := fun F σ H S pins s I =>
  pi_dict pe_w pins s σ H _ I ((h F σ H S).mono fun v H1 ⟨d, Ω1, F1, S1, f1, i1, ks, ds, ed, r⟩ => by
    subst ed
    obtain ⟨l, xs, ob, rfl, hl, hz, il⟩ := isDk i1
    refine ⟨l, ob, _, rfl, S1.fh _ _ hl, _, Ω1, F1, S1, f1, fun n F2 H2 e1 e2 => ⟨fun d w => ?_, fun w => ⟨e2 _ _ (e1 _ _ hl), by rw [List.length_zip]; rw [List.length_map] at w; omega⟩⟩, r⟩
    rw [List.getElem?_map] at w
    obtain ⟨k, hk, rfl⟩ := Option.map_eq_some_iff.mp w
    have hn : n < ks.length := (List.getElem?_eq_some_iff.mp hk).1
    refine ⟨⟨e2 _ _ (e1 _ _ hl), by rw [List.length_zip]; omega⟩, fun x H3 ⟨z, k', v', hkv, ex⟩ => ?_⟩
    subst z ex
    have : k' = k := by
      rw [List.getElem?_zip_eq_some] at hkv
      rw [hk] at hkv
      exact (Option.some.inj hkv.1).symm
    subst this
    refine ⟨F2, Pur.refl e2, ?_⟩
    cases k' with
    | inl j => exact i_int F2
    | inr y => exact i_str F2)
end
def spS {τ : Type} (K : PySem.W.Frag) (n : Nat) (om : τ → Om) (C : τ → List D → τ → D → Prop) : Sp := fun vs H Q _ => ∃ t ds t' d F, C t ds t' d ∧ ds.length = n ∧ Same F H ∧ IsL K F ds vs ∧ ((om t).map (·.1)).Nodup ∧ (∀ p ∈ om t, F p.1 = none ∧ ∃ o, H p.1 = some o ∧ ∀ F', Same F F' → p.2 F' o) ∧
  ∀ v H' F', Same F F' → Same F' H' → (∀ b o, b ∉ (om t).map (·.1) → H b = some o → H' b = some o) → (∀ b, F' b ≠ none → F b ≠ none ∨ H b = none) → (∀ p ∈ om t', F' p.1 = none ∧ ∃ o, H' p.1 = some o ∧ ∀ F2, Same F' F2 → p.2 F2 o) → Is K F' d v → Q v H'
theorem spS.len {τ : Type} {K : PySem.W.Frag} {n : Nat} {om : τ → Om} {C : τ → List D → τ → D → Prop} {vs : List V} {H : Hp} {Q : VK} {E : XK} (h : spS K n om C vs H Q E) : vs.length = n := by
  obtain ⟨t, ds, t', d, F, _, l, _, i, _⟩ := h
  rw [i.len, l]
section
variable {τ : Type} {om : τ → Om} {C : τ → List D → τ → D → Prop}
theorem om_state {P : Program} {w : World} {K : PySem.W.Frag} {mg : Str → Option Value} {base : Heap} {m q : Str} {st : Stmt} {N ps : List Str} {k n : Nat} {Cc : Addr} (d : MethK K Cc m q st ps) (S : FnScope N ps (defScope st)) (hn : ps.length = n) (hm : ∀ t ds t' d, C t ds t' d → (om t').map (·.1) = (om t).map (·.1))
    (body : ∀ (f : Addr) (cdv : Value) (A : Around) (outer : List Env) (s : Shared) (H : Hp) (E : XK), Room k (A.deeper (envOfC q (defScope st) s.heap.objs.size f cdv)) → ∀ (t : τ) (ds : List D) (t' : τ) (r : D), C t ds t' r → ∀ B : Bs,
      W3 (cx0 P w K mg base N q st f cdv A outer s H E) B (defBody st) (startG N ds) (om t) ⟨fun _ Ω => r = .non ∧ Ω = om t', fun r' Ω => r' = r ∧ Ω = om t', fun _ _ => False, fun _ _ => False⟩) : OkM P w K mg base CX0 (k + 1) Cc m ps (spS K n om C) :=
  d.ok S (fun vs H Q E h => (spS.len h).trans hn.symm) fun f cdv A outer s H vs Q E hr h => ⟨_, pss_w, by
    obtain ⟨t, ds, t', r, F, hC, hl, fh, il, nd, own, q⟩ := h
    have S0 : Sat K ⟨(om t).map (·.1), F, H⟩ (startG N ds) (om t) F (L2.start N vs) H :=
      ⟨Same.refl _, fh, fun _ q => .inl q, fun _ _ _ e => e, nd, fun p hp => .inl (List.mem_map.mpr ⟨p, hp, rfl⟩), own, Sl.start il⟩
    have fin : ∀ {Ω' : Om} {F' H' : Hp} {σ' : L2.St} {Γ' : Ga} {v : V}, Ω' = om t' → Sat K (⟨(om t).map (fun p : Addr × Ow => p.1), F, H⟩ : Bs) Γ' Ω' F' σ' H' → Is K F' r v → Q v H' := by
      intro Ω' F' H' σ' Γ' v e S' iv
      subst e
      refine q v H' F' S'.f0 S'.fh (fun b o hb e => S'.kp b o hb e) (fun b hb => ?_) (fun p hp => S'.own p hp) iv
      rcases S'.fr b hb with z | z | z
      · exact .inl z
      · exact .inr z
      · have z' : b ∈ (om t).map (·.1) := z
        rw [← hm _ _ _ _ hC] at z'
        obtain ⟨p, hp, rfl⟩ := List.mem_map.mp z'
        exact absurd (S'.own p hp).1 hb
    refine ends_mono (D := E3.to K (⟨(om t).map (fun p : Addr × Ow => p.1), F, H⟩ : Bs) F ⟨fun _ Ω => r = .non ∧ Ω = om t', fun r' Ω => r' = r ∧ Ω = om t', fun _ _ => False, fun _ _ => False⟩) (D' := { nx := fun _ H' => Q .non H', rt := Q }) ?_ ?_ ?_ ?_ (body f cdv A outer s H E hr t ds t' r hC (⟨(om t).map (fun p : Addr × Ow => p.1), F, H⟩ : Bs) F _ H S0)
    · rintro σ' H' ⟨Γ', Ω', F', S', f', e1, e2⟩
      exact fin e2 S' (by rw [e1]; exact i_non F')
    · rintro v H' ⟨d', Ω', F', ⟨σ', S'⟩, f', i', e1, e2⟩
      subst e1
      exact fin e2 S' i'
    · rintro σ' H' ⟨_, _, _, _, _, z⟩
      exact z.elim
    · rintro σ' H' ⟨_, _, _, _, _, z⟩
      exact z.elim⟩
variable {X : Cx} {B : Bs} {Γ : Ga} {Ω Ω4 : Om} {e o : Expr} {es : List Expr} {d : D} {ds gs : List D} {n k : Nat} {Cc a : Addr} {fs : List Str} {m : Str} {ps : List Str} {pos apos : Pos} {R : D → Om → Prop} {t t' : τ}
theorem v_methS {pl : Sem Bool} (ok : OkM X.prog X.w X.K X.mg X.base CX0 k Cc m ps (spS X.K n om C)) (c : Cls X.K Cc) (hr : Room k X.A) (ho : P3 X Γ o (.raw (.ref a))) (hin : (a, oIns X.K Cc fs gs) ∈ Ω) (hf : m ∉ fs) (ha : PL3 X Γ (e :: es) ds) (hm : (om t').map (·.1) = (om t).map (·.1)) (pm : Ω.Perm (om t ++ Ω4)) (hC : C t (.raw (.ref a) :: ds) t' d) (r : R d (om t' ++ Ω4)) (hn : ds.length + 1 = n := by rfl)
    (hst : starEach (e :: es) X.env = (false, eval e X.env) :: starEach es X.env := by rfl) (hpl : (backTo pos (starEach es X.env)).any (·.1) = false := by rfl)
    (ht : eval (.Call (.Attribute o m apos) (e :: es) [] pos) X.env = (do
      let ov ← eval o X.env
      standAt apos.atName
      let (f, first) ← holding [ov] (getMethod ov m pl)
      callWith pos f first (backTo pos (starEach (e :: es) X.env)) (backToKw pos (keywordEach [] X.env))) := by rfl) : V3 X B (.Call (.Attribute o m apos) (e :: es) [] pos) Γ Ω R := fun F σ H S pins s I => by
  obtain ⟨f, fd, Fn, hM, hb⟩ := ok
  refine pe_meth (pl := pl) ho c hM Fn hr hb .nil pass0 ha hst hpl ht pins s σ H _ I ⟨F, S.fh, S.sl, fun v H1 F1 p1 i1 => ?_⟩
  cases isR i1
  have S1 := S.pur p1
  obtain ⟨fa, o1, ha1, ho1⟩ := S1.own _ hin
  obtain ⟨dx, xs, rfl, hl, il⟩ := ho1 F1 (Same.refl _)
  refine ⟨a, dx, _, rfl, ha1, fld_none hf, F1, p1.fh, S1.sl, fun us H2 F2 p2 i2 => ?_⟩
  dsimp only
  rw [List.append_nil]
  have S2 := (S1.pur p2).perm pm.symm
  have nd2 := S2.nd
  rw [List.map_append] at nd2
  have nds := List.nodup_append.mp nd2
  refine ⟨t, .raw (.ref a) :: ds, t', d, F2, hC, by rw [List.length_cons]; exact hn, S2.fh, IsL.cons (i_raw F2) i2, nds.1, fun p hp => S2.own p (List.mem_append_left _ hp), fun v H' F' g1 g2 g3 g4 g5 iv => ⟨d, om t' ++ Ω4, F', ?_, p1.ff.trans (p2.ff.trans g1), iv, r⟩⟩
  refine ⟨S2.f0.trans g1, g2, fun b hb => ?_, fun b o hb e => ?_, ?_, fun p hp => ?_, fun p hp => ?_, S2.sl.mono g1⟩
  · rcases g4 b hb with z | z
    · exact S2.fr b z
    · exact (S2.freeB z).elim (fun w => .inr (.inl w)) fun w => .inr (.inr w)
  · refine g3 b o (fun z => ?_) (S2.kp b o hb e)
    obtain ⟨p, hp, rfl⟩ := List.mem_map.mp z
    rcases S2.od p (List.mem_append_left _ hp) with z | z
    · exact hb z
    · have z' : B.H p.1 = none := z
      rw [z'] at e; cases e
  · rw [List.map_append, hm, ← List.map_append]
    exact S2.nd
  · rcases List.mem_append.mp hp with z | z
    · have : p.1 ∈ (om t).map (·.1) := by rw [← hm]; exact List.mem_map.mpr ⟨p, z, rfl⟩
      obtain ⟨p', hp', e⟩ := List.mem_map.mp this
      rw [← e]
      exact S2.od p' (List.mem_append_left _ hp')
    · exact S2.od p (List.mem_append_right _ z)
  · rcases List.mem_append.mp hp with z | z
    · exact g5 p z
    · obtain ⟨h1, o2, h2, h3⟩ := S2.own p (List.mem_append_right _ z)
      have nin : p.1 ∉ (om t).map (·.1) := fun y => nds.2.2 _ y _ (List.mem_map.mpr ⟨p, z, rfl⟩) rfl
      refine ⟨?_, o2, g3 _ _ nin h2, fun F3 e3 => h3 F3 (g1.trans e3)⟩
      cases zz : F' p.1 with
      | none => rfl
      | some u =>
        rcases g4 p.1 (by rw [zz]; simp) with y | y
        · exact absurd h1 y
        · rw [h2] at y; cases y
end
end L3
set_option Elab.async false
set_option linter.all false
set_option maxRecDepth 100000
set_option maxHeartbeats 4000000
namespace L3
open PySem PySem.Spec PySem.Calls PyProof.Rows L2
section
variable {κ κ' α β : Type} [DecidableEq κ] [DecidableEq κ'] {f : κ → κ'} {g : α → β}
theorem vA_map (hf : ∀ x y, f x = f y → x = y) {k : κ} : ∀ {ks : List κ} {xs : List α}, vA (ks.map f) (xs.map g) (f k) = (vA ks xs k).map g
  | [], _ => rfl
  | _ :: _, [] => rfl
  | q :: ks, x :: xs => by
    have ih := vA_map hf (k := k) (ks := ks) (xs := xs)
    unfold vA at ih ⊢
    rw [List.map_cons, List.map_cons, List.zip_cons_cons, List.zip_cons_cons, List.find?_cons, List.find?_cons]
    by_cases e : q = k
    · rw [decide_eq_true e, decide_eq_true (show f q = f k by rw [e])]; rfl
    · rw [decide_eq_false e, decide_eq_false (show ¬ f q = f k from fun z => e (hf _ _ z))]
      exact ih
theorem mem_mapf (hf : ∀ x y, f x = f y → x = y) {k : κ} {ks : List κ} : f k ∈ ks.map f ↔ k ∈ ks := by
  rw [List.mem_map]
  exact ⟨fun ⟨x, h, e⟩ => hf _ _ e ▸ h, fun h => ⟨k, h, rfl⟩⟩
theorem pK_map (hf : ∀ x y, f x = f y → x = y) {k : κ} {ks : List κ} : pK (ks.map f) (f k) = (pK ks k).map f := by
  unfold pK
  by_cases h : k ∈ ks
  · rw [if_pos h, if_pos ((mem_mapf hf).mpr h)]
  · rw [if_neg h, if_neg fun z => h ((mem_mapf hf).mp z), List.map_append]; rfl
theorem pA_map (hf : ∀ x y, f x = f y → x = y) {k : κ} {ks : List κ} {xs : List α} {v : α} : pA (ks.map f) (xs.map g) (f k) (g v) = (pA ks xs k v).map g := by
  unfold pA
  by_cases h : k ∈ ks
  · rw [if_pos h, if_pos ((mem_mapf hf).mpr h), List.zip_map, List.map_map, List.map_map]
    refine List.map_congr_left fun p _ => ?_
    show (if f p.1 = f k then g v else g p.2) = g (if p.1 = k then v else p.2)
    by_cases e : p.1 = k
    · rw [if_pos e, if_pos (by rw [e])]
    · rw [if_neg e, if_neg fun z => e (hf _ _ z)]
  · rw [if_neg h, if_neg fun z => h ((mem_mapf hf).mp z), List.map_append]; rfl
theorem vA_mem {k : κ} {v : α} : ∀ {ks : List κ} {xs : List α}, vA ks xs k = some v → v ∈ xs
  | [], _, h => by simp [vA] at h
  | _ :: _, [], h => by simp [vA] at h
  | q :: ks, x :: xs, h => by
    unfold vA at h
    rw [List.zip_cons_cons, List.find?_cons] at h
    by_cases e : q = k
    · rw [decide_eq_true e] at h; cases h; exact List.mem_cons_self
    · rw [decide_eq_false e] at h; exact List.mem_cons_of_mem _ (vA_mem h)
theorem pA_mem {k : κ} {v x : α} {ks : List κ} {xs : List α} (h : x ∈ pA ks xs k v) : x = v ∨ x ∈ xs := by
  unfold pA at h
  split at h
  · obtain ⟨p, hp, e⟩ := List.mem_map.mp h
    split at e
    · exact .inl e.symm
    · exact .inr (e ▸ (List.of_mem_zip hp).2)
  · rcases List.mem_append.mp h with z | z
    · exact .inr z
    · exact .inl (List.mem_singleton.mp z)
theorem pK_len {k : κ} {ks : List κ} : (pK ks k).length ≤ ks.length + 1 := by
  unfold pK
  split
  · omega
  · rw [List.length_append]; exact Nat.le_refl _
theorem pK_mem {k x : κ} {ks : List κ} (h : x ∈ pK ks k) : x = k ∨ x ∈ ks := by
  unfold pK at h
  split at h
  · exact .inr h
  · rcases List.mem_append.mp h with z | z
    · exact .inr z
    · exact .inl (List.mem_singleton.mp z)
theorem vA_at {ks : List κ} {F : Nat → α} {k : κ} : ∀ {i : Nat}, ks.Nodup → ks[i]? = some k → vA ks (tb ks.length F) k = some (F i) := by
  induction ks generalizing F with
  | nil => intro i _ h; simp at h
  | cons q ks ih =>
    intro i nd h
    rw [List.length_cons, tb_shift]
    unfold vA
    rw [List.zip_cons_cons, List.find?_cons]
    cases i with
    | zero =>
      rw [decide_eq_true (show q = k by simpa using h)]; rfl
    | succ i =>
      have hk : ks[i]? = some k := by simpa using h
      have ne : ¬ q = k := fun e => (List.nodup_cons.mp nd).1 (e ▸ List.mem_of_getElem? hk)
      rw [decide_eq_false ne]
      exact ih (F := fun i => F (i + 1)) (List.nodup_cons.mp nd).2 hk
end
def liveR (hs L : List Str) (rs : List Rule) : List Rule := rs.filter fun r => okBody hs L r.2.1
def isStp (L : List Str) (r : Rule) : Bool := match r.2.1 with | [x] => decide (x ∈ L) | _ => false
def b0 (r : Rule) : Str := r.2.1.headD ""
def kW (p : Str × Str) : List Key := [.inr p.1, .inr p.2]
def kS (p : Str × Nat × Nat) : List Key := [.inr p.1, .inl (p.2.1 : Int), .inl (p.2.2 : Int)]
theorem kW_inj : ∀ x y, kW x = kW y → x = y := fun ⟨a, b⟩ ⟨c, d⟩ h => by
  unfold kW at h
  simp only [List.cons.injEq, Sum.inr.injEq, and_true] at h
  rw [h.1, h.2]
theorem kS_inj : ∀ x y, kS x = kS y → x = y := fun ⟨a, b, c⟩ ⟨d, e, f⟩ h => by
  unfold kS at h
  simp only [List.cons.injEq, Sum.inr.injEq, Sum.inl.injEq, and_true, Int.ofNat_inj] at h
  rw [h.1, h.2.1, h.2.2]
def inrK : Str → Key := Sum.inr
theorem inrK_inj : ∀ x y, inrK x = inrK y → x = y := fun x y h => Sum.inr.inj h
def wayS (ss : List Rule) (h o : Str) : Rat := (vA (ss.map fun r => (r.1, b0 r)) (ss.map (·.2.2)) (h, o)).getD 0
abbrev Kn := List (Str × Nat × Nat) × List Rat
def knK (kn : Kn) : List (List Key) := kn.1.map kS
def knV (kn : Kn) : List D := kn.2.map sh
def knD (kn : Kn) : D := .dt (knK kn) (knV kn)
def getS (kn : Kn) (h : Str) (i j : Nat) : Rat := (vA kn.1 kn.2 (h, i, j)).getD 0
def putS (kn : Kn) (h : Str) (i j : Nat) (t : Rat) : Kn := (pK kn.1 (h, i, j), pA kn.1 kn.2 (h, i, j) t)
def woS (hs row : List Str) (kn : Kn) (i j : Nat) (x : Str) : Rat := if x ∈ hs then getS kn x i j else if j = i + 1 ∧ row[i]? = some x then 1 else 0
abbrev En := List Str × List Rat
def enD (e : En) : D := .dk (e.1.map inrK) (e.2.map sh)
def endStep (wo : Str → Rat) (acc : En) (r : Rule) : En := if wo (b0 r) = 0 then acc else (pK acc.1 r.1, pA acc.1 acc.2 r.1 ((vA acc.1 acc.2 r.1).getD 0 + r.2.2 * wo (b0 r)))
def endsF (wo : Str → Rat) (br : List Rule) : En := br.foldl (endStep wo) ([], [])
def chS (L : List Str) (ch : Nat → Nat → Rat) (h o : Str) : Rat := ch (L.idxOf h) (L.idxOf o)
def chD (L : List Str) (ch : Nat → Nat → Rat) : D := .dk (L.map inrK) (tb L.length fun i => .dk (L.map inrK) (tb L.length fun j => sh (ch i j)))
def sumP (ps : List (Rat × Rat)) : Rat := ps.foldl (fun a p => a + p.1 * p.2) 0
def pairsE (L : List Str) (ch : Nat → Nat → Rat) (e : En) (h : Str) : List (Rat × Rat) := e.1.map fun o => (chS L ch h o, (vA e.1 e.2 o).getD 0)
def totS (L : List Str) (ch : Nat → Nat → Rat) (e : En) (h : Str) : Rat := sumP (pairsE L ch e h)
def setStep (L : List Str) (ch : Nat → Nat → Rat) (e : En) (i j : Nat) (kn : Kn) (h : Str) : Kn := if totS L ch e h = 0 then kn else putS kn h i j (totS L ch e h)
def settleF (hs row L : List Str) (br : List Rule) (ch : Nat → Nat → Rat) (kn : Kn) (p : Nat × Nat) : Kn := L.foldl (setStep L ch (endsF (woS hs row kn p.1 p.2) br) p.1 p.2) kn
def strA (n : Nat) : List (Nat × Nat) := (List.range n).flatMap fun l => (List.range (n - l)).map fun i => (i, i + l + 1)
def allF (hs row L : List Str) (br : List Rule) (ch : Nat → Nat → Rat) : Kn := (strA row.length).foldl (settleF hs row L br ch) ([], [])
def pairD (p : Nat × Nat) : D := .tup [.int (p.1 : Int), .int (p.2 : Int)]
def shPair (p : Rat × Rat) : D := .tup [sh p.1, sh p.2]
def sF : List Str := ["grammar", "row", "known_heads", "branches", "chains", "known_sums", "known_worths"]
def sopB (n s : Nat) : Nat := n * (4 * s + 2) + 2
def C_sop : List D → D → Prop := fun ds d => ∃ (ps : List (Rat × Rat)) (s : Nat), ds = [.lst (ps.map shPair)] ∧ d = sh (sumP ps) ∧ (∀ p ∈ ps, (0 ≤ p.1 ∧ Sz s p.1) ∧ 0 ≤ p.2 ∧ Sz s p.2) ∧ sopB ps.length s ≤ big ∧ s ≤ 10000000
def C_strs : List D → D → Prop := fun ds d => ∃ row : List Str, ds = [bodyD row] ∧ d = .lst ((strA row.length).map pairD) ∧ row.length ≤ 10
noncomputable def C_liveR (C : Addr) : List D → D → Prop := fun ds d => ∃ (st : Str) (rs : List Rule), ds = [gD C st rs] ∧ d = .lst (rulesD (liveR (firsts rs) (liveL (firsts rs) rs) rs)) ∧ rs.length ≤ 30 ∧ ∀ r ∈ rs, r.2.1.length ≤ 4
def C_isStp : List D → D → Prop := fun ds d => ∃ (r : Rule) (L : List Str), ds = [ruleD r, .lst (strsD L)] ∧ d = .bl (isStp L r)
def wM2 (L : List Str) (ss : List Rule) : Nat → Nat → Rat := fun i j => wayS ss (L.getD i "") (L.getD j "")
def idM (L : List Str) : Nat → Nat → Rat := fun i j => if L.getD i "" = L.getD j "" then 1 else 0
def chF (L : List Str) (ss : List Rule) : Nat → Nat → Rat := fun i j => EK (wM L.length (wM2 L ss) (idM L)) L.length i (L.length + j)
def C_chains : List D → D → Prop := fun ds d => ∃ (L : List Str) (ss : List Rule) (s : Nat), ds = [.lst (strsD L), .lst (rulesD ss)] ∧ d = chD L (chF L ss) ∧ L.Nodup ∧ L.length ≤ 30 ∧ ss.length ≤ 30 ∧ (∀ r ∈ ss, ∃ x, r.2.1 = [x]) ∧ (ss.map fun r => (r.1, b0 r)).Nodup ∧ (∀ r ∈ ss, 0 ≤ r.2.2 ∧ Sz s r.2.2) ∧ 1 ≤ s ∧ sK s L.length ≤ big ∧ Piv L.length (wM2 L ss)
def sO (Cs : Addr) (g row hs br ch kn kw : D) : D := .obj Cs sF [g, row, hs, br, ch, kn, kw]
def C_within (Cs : Addr) : List D → D → Prop := fun ds d => ∃ (g row hs br ch kw : D) (kn : Kn) (h : Str) (i j : Nat), ds = [sO Cs g row hs br ch (knD kn) kw, .str h, .int (i : Int), .int (j : Int)] ∧ d = sh (getS kn h i j)
noncomputable def C_wholeS (Cs Cg : Addr) : List D → D → Prop := fun ds d => ∃ (st : Str) (rs : List Rule) (row : List Str) (hs br ch kw : D) (kn : Kn), ds = [sO Cs (gD Cg st rs) (bodyD row) hs br ch (knD kn) kw] ∧ d = sh (getS kn st 0 row.length)
def C_worth (Cs : Addr) : List D → D → Prop := fun ds d => ∃ (g br ch kw : D) (row hs : List Str) (kn : Kn) (x : Str) (i j : Nat), ds = [sO Cs g (bodyD row) (.lst (strsD hs)) br ch (knD kn) kw, .str x, .int (i : Int), .int (j : Int)] ∧ d = sh (woS hs row kn i j x) ∧ i < row.length
def C_worthB (Cs : Addr) : List D → D → Prop := fun ds d => ∃ (g br ch kw : D) (row hs : List Str) (kn : Kn) (x : Str) (i j : Nat), ds = [sO Cs g (bodyD row) (.lst (strsD hs)) br ch (knD kn) kw, bodyD [x], .int (i : Int), .int (j : Int)] ∧ d = sh (woS hs row kn i j x) ∧ i < row.length
def KnOk (t : Nat) (kn : Kn) : Prop := ∀ q ∈ kn.2, 0 ≤ q ∧ Sz t q
def brB (n s t : Nat) : Nat := n * (s + t + 4) + 1
def BrOk (s : Nat) (br : List Rule) : Prop := ∀ r ∈ br, (∃ x, r.2.1 = [x]) ∧ 0 ≤ r.2.2 ∧ Sz s r.2.2
def C_endsAt (Cs : Addr) : List D → D → Prop := fun ds d => ∃ (g ch kw : D) (row hs : List Str) (br : List Rule) (kn : Kn) (i j s t : Nat), ds = [sO Cs g (bodyD row) (.lst (strsD hs)) (.lst (rulesD br)) ch (knD kn) kw, .int (i : Int), .int (j : Int)] ∧ d = enD (endsF (woS hs row kn i j) br) ∧ i < row.length ∧ br.length ≤ 30 ∧ BrOk s br ∧ KnOk t kn ∧ 1 ≤ t ∧ brB br.length s t ≤ big
end L3
set_option Elab.async false
set_option linter.all false
set_option maxRecDepth 100000
set_option maxHeartbeats 4000000
namespace L3
open PySem PySem.Spec PySem.Calls PyProof.Rows L2
structure SopOk (s : Nat) (ps : List (Rat × Rat)) (n : Nat) (t b : Int) : Prop where
  t0 : 0 ≤ t
  b0 : 0 < b
  tb : t.natAbs < 2 ^ (n * (2 * s + 1) + 1)
  bb : b.natAbs < 2 ^ (n * (2 * s + 1) + 1)
  e : Rat.divInt t b = sumP ps
theorem sop_0 {s : Nat} {ps : List (Rat × Rat)} : SopOk s (ps.take 0) 0 0 1 := ⟨Int.le_refl _, by decide, by rw [Nat.zero_mul]; decide, by rw [Nat.zero_mul]; decide, by simp [sumP]⟩
theorem sumP_snoc {ps : List (Rat × Rat)} {p : Rat × Rat} : sumP (ps ++ [p]) = sumP ps + p.1 * p.2 := by
  unfold sumP
  rw [List.foldl_append]
  rfl
theorem SopOk.skip {s n : Nat} {ps : List (Rat × Rat)} {p : Rat × Rat} {t b : Int} (h : SopOk s ps n t b) (hp : p.1 = 0 ∨ p.2 = 0) : SopOk s (ps ++ [p]) (n + 1) t b := by
  have hm : 2 ^ (n * (2 * s + 1) + 1) ≤ 2 ^ ((n + 1) * (2 * s + 1) + 1) := Nat.pow_le_pow_right (by decide) (by rw [Nat.add_mul n 1, Nat.one_mul]; omega)
  refine ⟨h.t0, h.b0, Nat.lt_of_lt_of_le h.tb hm, Nat.lt_of_lt_of_le h.bb hm, ?_⟩
  rw [sumP_snoc, h.e]
  rcases hp with z | z
  · rw [z, Rat.zero_mul, Rat.add_zero]
  · rw [z, Rat.mul_zero, Rat.add_zero]
theorem rat_cut {x y g : Int} (h : 0 < g) : Rat.divInt (x * g) (y * g) = Rat.divInt x y := Rat.divInt_mul_right (by omega)
theorem sop_eq {t b n e : Int} (hb : 0 < b) (he : 0 < e) : Rat.divInt (t * (e / My.G b e) + n * (b / My.G b e)) (b / My.G b e * e) = Rat.divInt t b + Rat.divInt n e := by
  have g0 : 0 < My.G b e := My.G_pos he
  obtain ⟨b', eb⟩ : My.G b e ∣ b := by have := Int.gcd_dvd_left b e; exact this
  obtain ⟨e', ee⟩ : My.G b e ∣ e := by have := Int.gcd_dvd_right b e; exact this
  generalize hg : My.G b e = g at *
  have d1 : b / g = b' := by rw [eb, Int.mul_ediv_cancel_left _ (by omega)]
  have d2 : e / g = e' := by rw [ee, Int.mul_ediv_cancel_left _ (by omega)]
  rw [d1, d2, Rat.divInt_add_divInt _ _ (by omega) (by omega), ← rat_cut (x := t * e' + n * b') (y := b' * e) g0]
  congr 1
  · rw [ee, eb]; grind
  · rw [eb]; grind
theorem SopOk.more {s n : Nat} {ps : List (Rat × Rat)} {p : Rat × Rat} {t b : Int} (h : SopOk s ps n t b) (h1 : 0 ≤ p.1 ∧ Sz s p.1) (h2 : 0 ≤ p.2 ∧ Sz s p.2) :
    SopOk s (ps ++ [p]) (n + 1) (t * ((p.1.den : Int) * (p.2.den : Int) / My.G b ((p.1.den : Int) * (p.2.den : Int))) + p.1.num * p.2.num * (b / My.G b ((p.1.den : Int) * (p.2.den : Int)))) (b / My.G b ((p.1.den : Int) * (p.2.den : Int)) * ((p.1.den : Int) * (p.2.den : Int))) := by
  have he : 0 < (p.1.den : Int) * (p.2.den : Int) := Int.mul_pos (My.den_pos' _) (My.den_pos' _)
  have g0 : 0 < My.G b ((p.1.den : Int) * (p.2.den : Int)) := My.G_pos he
  have n1 := My.q_num_nn h1.1
  have n2 := My.q_num_nn h2.1
  have eb : ((p.1.den : Int) * (p.2.den : Int)).natAbs < 2 ^ (s + s) := abs_mul_lt (den_abs h1.2) (den_abs h2.2)
  have c1 := dv_le (a := b) (g := My.G b ((p.1.den : Int) * (p.2.den : Int))) (Int.le_of_lt h.b0) g0
  have c2 := dv_le (a := (p.1.den : Int) * (p.2.den : Int)) (g := My.G b ((p.1.den : Int) * (p.2.den : Int))) (Int.le_of_lt he) g0
  have b1 := dv_fit c1 h.bb
  have b2 := dv_fit c2 eb
  have bn : (p.1.num * p.2.num).natAbs < 2 ^ (s + s) := abs_mul_lt h1.2.1 h2.2.1
  have x1 := abs_mul_lt h.tb b2
  have x2 := abs_mul_lt bn b1
  have x3 := abs_mul_lt b1 eb
  have eX : n * (2 * s + 1) + 1 + (s + s) + 1 = (n + 1) * (2 * s + 1) + 1 := by rw [Nat.add_mul n 1, Nat.one_mul]; omega
  have e2 : 2 ^ ((n + 1) * (2 * s + 1) + 1) = 2 ^ (n * (2 * s + 1) + 1 + (s + s)) + 2 ^ (n * (2 * s + 1) + 1 + (s + s)) := by rw [← eX, Nat.pow_succ]; omega
  rw [Nat.add_comm (s + s)] at x2
  refine ⟨Int.add_nonneg (Int.mul_nonneg h.t0 c2.1) (Int.mul_nonneg (Int.mul_nonneg n1 n2) c1.1), Int.mul_pos ?_ he, ?_, ?_, ?_⟩
  · obtain ⟨q, hq⟩ : My.G b ((p.1.den : Int) * (p.2.den : Int)) ∣ b := by have := Int.gcd_dvd_left b ((p.1.den : Int) * (p.2.den : Int)); exact this
    have hb := h.b0
    generalize My.G b ((p.1.den : Int) * (p.2.den : Int)) = g at *
    subst hq
    rw [Int.mul_ediv_cancel_left _ (by omega)]
    exact Int.pos_of_mul_pos_right hb g0
  · rw [e2]
    exact Nat.lt_of_le_of_lt (Int.natAbs_add_le _ _) (by omega)
  · rw [e2]
    omega
  · rw [sop_eq h.b0 he, sumP_snoc, h.e]
    congr 1
    exact My.q_mul p.1 p.2
theorem map_get {α : Type} {f : α → D} {xs : List α} {i : Nat} {d : D} (h : (xs.map f)[i]? = some d) : ∃ x, xs[i]? = some x ∧ d = f x := by
  rw [List.getElem?_map] at h
  obtain ⟨x, h1, h2⟩ := Option.map_eq_some_iff.mp h
  exact ⟨x, h1, h2.symm⟩
def strTo (n i : Nat) : List (Nat × Nat) := (List.range i).flatMap fun l => (List.range (n - l)).map fun j => (j, j + l + 1)
theorem strTo_succ {n i : Nat} : strTo n (i + 1) = strTo n i ++ (List.range (n - i)).map fun j => (j, j + i + 1) := by
  unfold strTo
  rw [List.range_succ, List.flatMap_append]
  simp
theorem strTo_len {n i : Nat} : (strTo n i).length ≤ n * i := by
  induction i with
  | zero => simp [strTo]
  | succ i ih =>
    rw [strTo_succ, List.length_append, List.length_map, List.length_range, Nat.mul_succ]
    omega
theorem strs_keys {L : List Str} : strsD L = (L.map inrK).map keyD := by unfold strsD; rw [List.map_map]; rfl
theorem nodup_keys {L : List Str} (h : L.Nodup) : (L.map inrK).Nodup := by
  rw [List.nodup_iff_pairwise_ne, List.pairwise_map]
  exact (List.nodup_iff_pairwise_ne.mp h).imp fun a b => a (inrK_inj _ _ b)
theorem wayS_ok {ss : List Rule} {s : Nat} {h o : Str} (hs : ∀ r ∈ ss, 0 ≤ r.2.2 ∧ Sz s r.2.2) (h1 : 1 ≤ s) : 0 ≤ wayS ss h o ∧ Sz s (wayS ss h o) := by
  unfold wayS
  cases q : vA (ss.map fun r => (r.1, b0 r)) (ss.map (·.2.2)) (h, o) with
  | none => exact ⟨by decide, sz_0.mono h1⟩
  | some v =>
    obtain ⟨r, hr, e⟩ := List.mem_map.mp (vA_mem q)
    rw [← e]
    exact hs r hr
theorem zipC_get {L : List Str} {F : Nat → Nat → Rat} {i : Nat} {d : D} (h : (zipD (strsD L) (tb L.length fun i => shR L.length (F i)))[i]? = some d) : ∃ x, i < L.length ∧ L[i]? = some x ∧ d = .tup [.str x, shR L.length (F i)] := by
  unfold zipD at h
  rw [List.getElem?_map] at h
  obtain ⟨p, h1, h2⟩ := Option.map_eq_some_iff.mp h
  obtain ⟨a, b⟩ := List.getElem?_zip_eq_some.mp h1
  obtain ⟨x, hx, ex⟩ := strsD_get a
  have hi : i < L.length := (List.getElem?_eq_some_iff.mp hx).1
  rw [tb_get hi] at b
  refine ⟨x, hi, hx, ?_⟩
  rw [← h2, ex, ← Option.some.inj b]
theorem zipC_len {L : List Str} {F : Nat → Nat → Rat} : (zipD (strsD L) (tb L.length fun i => shR L.length (F i))).length = L.length := by
  unfold zipD
  rw [List.length_map, List.length_zip, strsD_len, tb_len]
  omega
end L3
set_option Elab.async false
set_option linter.all false
set_option maxRecDepth 100000
set_option maxHeartbeats 4000000
namespace L3
open PySem PySem.Spec PySem.Calls PyProof.Rows L2
structure ClsS (K : PySem.W.Frag) (C : Addr) : Prop where
  c : Cls K C
  n_grammar : NoAttr K C "grammar"
  n_row : NoAttr K C "row"
  n_known_heads : NoAttr K C "known_heads"
  n_branches : NoAttr K C "branches"
  n_chains : NoAttr K C "chains"
  n_known_sums : NoAttr K C "known_sums"
  n_known_worths : NoAttr K C "known_worths"
theorem clsS_mk {K : PySem.W.Frag} {C : Addr} (pg : PySem.W.plainGet K C Str.empty = true) (hd : PySem.W.hasDictIn K C = true) (po : PySem.W.plainOver K C = true) (sa : PySem.W.findIn K (.ref C) "__setattr__" = some (some (.builtin "object.__setattr__")))
    (n1 : PySem.W.findIn K (.ref C) "grammar" = some none) (n2 : PySem.W.findIn K (.ref C) "row" = some none) (n3 : PySem.W.findIn K (.ref C) "known_heads" = some none) (n4 : PySem.W.findIn K (.ref C) "branches" = some none) (n5 : PySem.W.findIn K (.ref C) "chains" = some none) (n6 : PySem.W.findIn K (.ref C) "known_sums" = some none) (n7 : PySem.W.findIn K (.ref C) "known_worths" = some none) : ClsS K C := ⟨⟨pg, hd, po, sa⟩, n1, n2, n3, n4, n5, n6, n7⟩
theorem nm_Sums_within : ("within" : Str) ∉ sF := by decide +kernel
theorem nm_Sums_whole : ("whole" : Str) ∉ sF := by decide +kernel
theorem nm_Sums_settle : ("settle" : Str) ∉ sF := by decide +kernel
theorem nm_Sums_ends_at : ("ends_at" : Str) ∉ sF := by decide +kernel
theorem nm_Sums_worth : ("worth" : Str) ∉ sF := by decide +kernel
theorem nm_Sums_worth_of_body : ("worth_of_body" : Str) ∉ sF := by decide +kernel
theorem getS_ok {t : Nat} {kn : Kn} (h : KnOk t kn) (h1 : 1 ≤ t) {x : Str} {i j : Nat} : 0 ≤ getS kn x i j ∧ Sz t (getS kn x i j) := by
  unfold getS
  cases q : vA kn.1 kn.2 (x, i, j) with
  | none => exact ⟨by decide, sz_0.mono h1⟩
  | some v => exact h v (vA_mem q)
theorem woS_ok {t : Nat} {kn : Kn} (h : KnOk t kn) (h1 : 1 ≤ t) {hs row : List Str} {i j : Nat} {x : Str} : 0 ≤ woS hs row kn i j x ∧ Sz t (woS hs row kn i j x) := by
  unfold woS
  split
  · exact getS_ok h h1
  · split
    · exact ⟨by decide, sz_1.mono h1⟩
    · exact ⟨by decide, sz_0.mono h1⟩
structure EnOk (m k : Nat) (e : En) : Prop where
  len : e.1.length ≤ k
  eq : e.1.length = e.2.length
  vals : ∀ q ∈ e.2, 0 ≤ q ∧ Sz m q
theorem en_0 {s t : Nat} : EnOk (brB 0 s t) 0 ([], []) := ⟨Nat.le_refl _, rfl, fun q h => by cases h⟩
theorem EnOk.get {m k : Nat} {e : En} (h : EnOk m k e) (h1 : 1 ≤ m) {x : Str} : 0 ≤ (vA e.1 e.2 x).getD 0 ∧ Sz m ((vA e.1 e.2 x).getD 0) := by
  cases q : vA e.1 e.2 x with
  | none => exact ⟨by decide, sz_0.mono h1⟩
  | some v => exact h.vals v (vA_mem q)
theorem brB_succ {n s t : Nat} : brB (n + 1) s t = brB n s t + (s + t + 4) := by unfold brB; rw [Nat.add_mul n 1, Nat.one_mul]; omega
theorem brB_mono {m n s t : Nat} (h : m ≤ n) : brB m s t ≤ brB n s t := by unfold brB; have := Nat.mul_le_mul_right (s + t + 4) h; omega
theorem EnOk.step {s t k : Nat} {e : En} {r : Rule} {wo : Str → Rat} (h : EnOk (brB k s t) k e) (hs : 0 ≤ r.2.2 ∧ Sz s r.2.2) (hw : 0 ≤ wo (b0 r) ∧ Sz t (wo (b0 r))) : EnOk (brB (k + 1) s t) (k + 1) (endStep wo e r) := by
  have b1 : 1 ≤ brB k s t := by unfold brB; omega
  have g := h.get b1 (x := r.1)
  have le : brB k s t ≤ brB (k + 1) s t := brB_mono (by omega)
  unfold endStep
  split
  · exact ⟨Nat.le_succ_of_le h.len, h.eq, fun q hq => ⟨(h.vals q hq).1, (h.vals q hq).2.mono le⟩⟩
  · refine ⟨Nat.le_trans pK_len (Nat.succ_le_succ h.len), pA_len h.eq, fun q hq => ?_⟩
    rcases pA_mem hq with z | z
    · rw [z]
      exact ⟨q_nn_add g.1 (q_nn_mul hs.1 hw.1), (sz_add g.2 (sz_mul hs.2 hw.2)).mono (by rw [brB_succ]; omega)⟩
    · exact ⟨(h.vals q z).1, (h.vals q z).2.mono le⟩
theorem endsF_ok {s t : Nat} {wo : Str → Rat} {br : List Rule} (hb : BrOk s br) (hw : ∀ x, 0 ≤ wo x ∧ Sz t (wo x)) : ∀ i, i ≤ br.length → EnOk (brB i s t) i ((br.take i).foldl (endStep wo) ([], []))
  | 0, _ => en_0
  | i + 1, hi => by
    have hr : br[i]? = some br[i] := List.getElem?_eq_getElem (by omega)
    rw [take_get hr, List.foldl_append]
    exact (endsF_ok hb hw i (by omega)).step (hb _ (List.mem_of_getElem? hr)).2 (hw _)
theorem en_keys {L : List Str} {wo : Str → Rat} : ∀ {br : List Rule} {e : En}, (∀ r ∈ br, r.1 ∈ L) → (∀ x ∈ e.1, x ∈ L) → ∀ x ∈ (br.foldl (endStep wo) e).1, x ∈ L
  | [], e, _, h => h
  | r :: br, e, hb, h => by
    rw [List.foldl_cons]
    refine en_keys (fun r hr => hb r (List.mem_cons_of_mem _ hr)) fun x hx => ?_
    unfold endStep at hx
    split at hx
    · exact h x hx
    · rcases pK_mem hx with z | z
      · rw [z]; exact hb r (by simp)
      · exact h x z
theorem vA_some {κ α : Type} [DecidableEq κ] {k : κ} : ∀ {ks : List κ} {xs : List α}, k ∈ ks → ks.length = xs.length → ∃ v, vA ks xs k = some v
  | [], _, h, _ => by cases h
  | _ :: _, [], _, h => by simp at h
  | q :: ks, x :: xs, h, hl => by
    unfold vA
    rw [List.zip_cons_cons, List.find?_cons]
    by_cases e : q = k
    · rw [decide_eq_true e]; exact ⟨x, rfl⟩
    · rw [decide_eq_false e]
      exact vA_some ((List.mem_cons.mp h).resolve_left fun z => e z.symm) (by simpa using hl)
def tB (n m : Nat) : Nat := n * (2 * m + 1) + 1
theorem sumP_ok {m : Nat} {ps : List (Rat × Rat)} (h : ∀ p ∈ ps, (0 ≤ p.1 ∧ Sz m p.1) ∧ 0 ≤ p.2 ∧ Sz m p.2) : ∀ i, i ≤ ps.length → ∃ t b, SopOk m (ps.take i) i t b
  | 0, _ => ⟨0, 1, sop_0⟩
  | i + 1, hi => by
    obtain ⟨t, b, so⟩ := sumP_ok h i (by omega)
    have hp : ps[i]? = some ps[i] := List.getElem?_eq_getElem (by omega)
    rw [take_get hp]
    exact ⟨_, _, so.more (h _ (List.mem_of_getElem? hp)).1 (h _ (List.mem_of_getElem? hp)).2⟩
theorem sumP_sz {m : Nat} {ps : List (Rat × Rat)} (h : ∀ p ∈ ps, (0 ≤ p.1 ∧ Sz m p.1) ∧ 0 ≤ p.2 ∧ Sz m p.2) : 0 ≤ sumP ps ∧ Sz (tB ps.length m) (sumP ps) := by
  obtain ⟨t, b, so⟩ := sumP_ok h ps.length (Nat.le_refl _)
  rw [List.take_length] at so
  rw [← so.e]
  exact ⟨Rat.divInt_nonneg so.t0 (Int.le_of_lt so.b0), sz_divInt so.b0 so.tb so.bb⟩
structure ChOk (L : List Str) (v : Nat) (ch : Nat → Nat → Rat) : Prop where
  nd : L.Nodup
  len : L.length ≤ 30
  good : Good L.length L.length v ch
theorem idx_at {L : List Str} {x : Str} (h : x ∈ L) : L[L.idxOf x]? = some x := by
  have hl : L.idxOf x < L.length := List.idxOf_lt_length_iff.mpr h
  rw [List.getElem?_eq_getElem hl, List.getElem_idxOf]
theorem chS_ok {L : List Str} {v : Nat} {ch : Nat → Nat → Rat} (c : ChOk L v ch) {h o : Str} (hh : h ∈ L) (ho : o ∈ L) : 0 ≤ chS L ch h o ∧ Sz v (chS L ch h o) :=
  c.good _ _ (List.idxOf_lt_length_iff.mpr hh) (List.idxOf_lt_length_iff.mpr ho)
theorem pairs_ok {L : List Str} {v m k : Nat} {ch : Nat → Nat → Rat} {e : En} {h : Str} (c : ChOk L v ch) (he : EnOk m k e) (h1 : 1 ≤ m) (hk : ∀ x ∈ e.1, x ∈ L) (hh : h ∈ L) : ∀ p ∈ pairsE L ch e h, (0 ≤ p.1 ∧ Sz (max v m) p.1) ∧ 0 ≤ p.2 ∧ Sz (max v m) p.2 := fun p hp => by
  obtain ⟨o, ho, rfl⟩ := List.mem_map.mp hp
  have a := chS_ok c hh (hk o ho)
  have b := he.get h1 (x := o)
  exact ⟨⟨a.1, a.2.mono (Nat.le_max_left ..)⟩, b.1, b.2.mono (Nat.le_max_right ..)⟩
theorem pairsE_len {L : List Str} {ch : Nat → Nat → Rat} {e : En} {h : Str} : (pairsE L ch e h).length = e.1.length := by unfold pairsE; rw [List.length_map]
theorem chD_at {L : List Str} {F : Nat → D} {h : Str} (nd : L.Nodup) (hh : h ∈ L) : vA (L.map inrK) (tb L.length F) (inrK h) = some (F (L.idxOf h)) := by
  have := vA_at (ks := L.map inrK) (F := F) (k := inrK h) (i := L.idxOf h) (nodup_keys nd) (by rw [List.getElem?_map, idx_at hh]; rfl)
  rw [List.length_map] at this
  exact this
theorem enD_at {e : En} {o : Str} (hl : e.1.length = e.2.length) (ho : o ∈ e.1) : vA (e.1.map inrK) (e.2.map sh) (inrK o) = some (sh ((vA e.1 e.2 o).getD 0)) := by
  rw [vA_map inrK_inj]
  obtain ⟨v, hv⟩ := vA_some ho hl
  rw [hv]
  rfl
structure SSt where
  a : Addr
  b : Addr
  g : D
  row : List Str
  hs : List Str
  br : List Rule
  L : List Str
  ch : Nat → Nat → Rat
  kw : D
  kn : Kn
def omS (K : PySem.W.Frag) (Cs : Addr) (t : SSt) : Om := [(t.a, oIns K Cs sF [t.g, bodyD t.row, .lst (strsD t.hs), .lst (rulesD t.br), chD t.L t.ch, .raw (.ref t.b), t.kw]), (t.b, oDt K (knK t.kn) (knV t.kn))]
structure SetOk (t : SSt) (i j s u v : Nat) : Prop where
  i : i < t.row.length
  bl : t.br.length ≤ 30
  hd : ∀ r ∈ t.br, r.1 ∈ t.L
  br : BrOk s t.br
  kn : KnOk u t.kn
  u1 : 1 ≤ u
  ch : ChOk t.L v t.ch
  b1 : max v (brB t.br.length s u) ≤ 1000000
  b2 : sopB t.br.length (max v (brB t.br.length s u)) ≤ big
  kl : t.kn.1.length ≤ 100000
def C_settle (Cs : Addr) : SSt → List D → SSt → D → Prop := fun t ds t' d => ∃ (i j s u v : Nat), ds = [.raw (.ref t.a), .int (i : Int), .int (j : Int)] ∧ t' = { t with kn := settleF t.hs t.row t.L t.br t.ch t.kn (i, j) } ∧ d = .non ∧ SetOk t i j s u v
theorem settle_om {K : PySem.W.Frag} {Cs : Addr} : ∀ t ds t' d, C_settle Cs t ds t' d → (omS K Cs t').map (·.1) = (omS K Cs t).map (·.1) := fun t ds t' d ⟨_, _, _, _, _, _, e, _⟩ => by subst e; rfl
theorem solid_en {e : En} {L : Bool} : solid L (enD e) = true := by
  unfold enD
  rw [solid]
  induction e.2 with
  | nil => rfl
  | cons q qs ih => rw [List.map_cons, solids, ih]; rfl
theorem kn_len {L : List Str} {ch : Nat → Nat → Rat} {e : En} {i j : Nat} : ∀ {hs : List Str} {kn : Kn}, (hs.foldl (setStep L ch e i j) kn).1.length ≤ kn.1.length + hs.length
  | [], kn => Nat.le_refl _
  | h :: hs, kn => by
    rw [List.foldl_cons, List.length_cons]
    have := kn_len (L := L) (ch := ch) (e := e) (i := i) (j := j) (hs := hs) (kn := setStep L ch e i j kn h)
    have : (setStep L ch e i j kn h).1.length ≤ kn.1.length + 1 := by
      unfold setStep putS
      split
      · omega
      · exact pK_len
    omega
theorem knOk_put {t : Nat} {kn : Kn} {h : Str} {i j : Nat} {q : Rat} (k : KnOk t kn) (hq : 0 ≤ q ∧ Sz t q) : KnOk t (putS kn h i j q) := fun x hx => by
  rcases pA_mem hx with z | z
  · rw [z]; exact hq
  · exact k x z
theorem knOk_fold {t : Nat} {L : List Str} {ch : Nat → Nat → Rat} {e : En} {i j : Nat} : ∀ {hs : List Str} {kn : Kn}, KnOk t kn → (∀ h ∈ hs, 0 ≤ totS L ch e h ∧ Sz t (totS L ch e h)) → KnOk t (hs.foldl (setStep L ch e i j) kn)
  | [], kn, h, _ => h
  | h :: hs, kn, k, ht => by
    rw [List.foldl_cons]
    refine knOk_fold ?_ fun x hx => ht x (List.mem_cons_of_mem _ hx)
    unfold setStep
    split
    · exact k
    · exact knOk_put k (ht h (by simp))
def nxt (n s v u : Nat) : Nat := max u (tB n (max v (brB n s u)))
theorem SetOk.next {t : SSt} {i j s u v : Nat} (h : SetOk t i j s u v) : KnOk (nxt t.br.length s v u) (settleF t.hs t.row t.L t.br t.ch t.kn (i, j)) := by
  have eo := endsF_ok (wo := woS t.hs t.row t.kn i j) h.br (fun x => woS_ok h.kn h.u1) t.br.length (Nat.le_refl _)
  rw [List.take_length] at eo
  have ek := en_keys (wo := woS t.hs t.row t.kn i j) (e := ([], [])) h.hd (fun x hx => by cases hx)
  refine knOk_fold (fun q hq => ⟨(h.kn q hq).1, (h.kn q hq).2.mono (Nat.le_max_left ..)⟩) fun x hx => ?_
  have ps := pairs_ok h.ch eo (by unfold brB; omega) ek hx
  have z := sumP_sz ps
  refine ⟨z.1, z.2.mono (Nat.le_trans ?_ (Nat.le_max_right ..))⟩
  rw [pairsE_len]
  unfold tB
  have := Nat.mul_le_mul_right (2 * max v (brB t.br.length s u) + 1) eo.len
  omega
def uK (n s v : Nat) : Nat → Nat
  | 0 => 1
  | k + 1 => nxt n s v (uK n s v k)
noncomputable def liveOf (rs : List Rule) : List Str := liveL (firsts rs) rs
noncomputable def brOf (rs : List Rule) : List Rule := (liveR (firsts rs) (liveOf rs) rs).filter fun r => !isStp (liveOf rs) r
noncomputable def ssOf (rs : List Rule) : List Rule := (liveR (firsts rs) (liveOf rs) rs).filter (isStp (liveOf rs))
noncomputable def chOf (rs : List Rule) : Nat → Nat → Rat := chF (liveOf rs) (ssOf rs)
noncomputable def knOf (rs : List Rule) (row : List Str) : Kn := allF (firsts rs) row (liveOf rs) (brOf rs) (chOf rs)
noncomputable def sDs (Cg : Addr) (st : Str) (rs : List Rule) (row : List Str) : List D := [gD Cg st rs, bodyD row, .lst (strsD (firsts rs)), .lst (rulesD (brOf rs)), chD (liveOf rs) (chOf rs), knD (knOf rs row), .dt [] []]
structure SumOk (rs : List Rule) (row : List Str) (s : Nat) : Prop where
  rl : rs.length ≤ 30
  body : ∀ r ∈ rs, r.2.1.length ≤ 4
  wl : row.length ≤ 10
  nd : (liveOf rs).Nodup
  ll : (liveOf rs).length ≤ 30
  keys : ((ssOf rs).map fun r => (r.1, b0 r)).Nodup
  sz : ∀ r ∈ rs, 0 ≤ r.2.2 ∧ Sz s r.2.2
  s1 : 1 ≤ s
  sk : sK s (liveOf rs).length ≤ big
  piv : Piv (liveOf rs).length (wM2 (liveOf rs) (ssOf rs))
  hd : ∀ r ∈ brOf rs, r.1 ∈ liveOf rs
  one : ∀ r ∈ brOf rs, ∃ x, r.2.1 = [x]
  bits : ∀ k, k < (strA row.length).length → max (sK s (liveOf rs).length) (brB (brOf rs).length s (uK (brOf rs).length s (sK s (liveOf rs).length) k)) ≤ 1000000 ∧ sopB (brOf rs).length (max (sK s (liveOf rs).length) (brB (brOf rs).length s (uK (brOf rs).length s (sK s (liveOf rs).length) k))) ≤ big
noncomputable def C_sums8 (Cg : Addr) : List D → List Str × List D → Prop := fun ds r => ∃ (st : Str) (rs : List Rule) (row : List Str) (s : Nat), ds = [gD Cg st rs, bodyD row] ∧ r = (sF, sDs Cg st rs row) ∧ SumOk rs row s
end L3
set_option Elab.async false
set_option linter.all false
set_option maxRecDepth 100000
set_option maxHeartbeats 4000000
namespace L3
open PySem PySem.Spec PySem.Calls PyProof.Rows L2
noncomputable def allK (rs : List Rule) (row : List Str) (k : Nat) : Kn := ((strA row.length).take k).foldl (settleF (firsts rs) row (liveOf rs) (brOf rs) (chOf rs)) ([], [])
theorem allK_end {rs : List Rule} {row : List Str} : allK rs row (strA row.length).length = knOf rs row := by unfold allK; rw [List.take_length]; rfl
theorem allK_succ {rs : List Rule} {row : List Str} {k : Nat} {p : Nat × Nat} (h : (strA row.length)[k]? = some p) : allK rs row (k + 1) = settleF (firsts rs) row (liveOf rs) (brOf rs) (chOf rs) (allK rs row k) (p.1, p.2) := by
  unfold allK
  rw [take_get h, List.foldl_append]
  rfl
theorem strA_lt {n : Nat} {p : Nat × Nat} (h : p ∈ strA n) : p.1 < n := by
  unfold strA at h
  obtain ⟨l, hl, hp⟩ := List.mem_flatMap.mp h
  obtain ⟨i, hi, rfl⟩ := List.mem_map.mp hp
  rw [List.mem_range] at hl hi
  show i < n
  omega
theorem strA_len {n : Nat} (h : n ≤ 10) : (strA n).length ≤ 100 := by
  have := strTo_len (n := n) (i := n)
  have e : strA n = strTo n n := rfl
  rw [e]
  have : n * n ≤ 10 * 10 := Nat.mul_le_mul h h
  omega
theorem chF_good {L : List Str} {ss : List Rule} {s : Nat} (hs : ∀ r ∈ ss, 0 ≤ r.2.2 ∧ Sz s r.2.2) (h1 : 1 ≤ s) (hp : Piv L.length (wM2 L ss)) : Good L.length L.length (sK s L.length) (chF L ss) := by
  have gI : Good L.length L.length s (idM L) := fun i j _ _ => by
    unfold idM
    split
    · exact ⟨by decide, sz_1.mono h1⟩
    · exact ⟨by decide, sz_0.mono h1⟩
  have gW : Good L.length L.length s (wM2 L ss) := fun i j _ _ => wayS_ok hs h1
  have G := (good_wM gW gI).at (Nat.le_add_right _ _) L.length (Nat.le_refl _) fun k hk => piv_wM hp k hk
  intro i j hi hj
  exact G i (L.length + j) hi (by omega)
theorem uK_1 {n s v : Nat} : ∀ k, 1 ≤ uK n s v k
  | 0 => Nat.le_refl _
  | k + 1 => Nat.le_trans (uK_1 k) (Nat.le_max_left ..)
theorem kn_fold_len {hs row L : List Str} {br : List Rule} {ch : Nat → Nat → Rat} : ∀ {ps : List (Nat × Nat)} {kn : Kn}, (ps.foldl (settleF hs row L br ch) kn).1.length ≤ kn.1.length + ps.length * L.length
  | [], kn => by simp
  | p :: ps, kn => by
    rw [List.foldl_cons, List.length_cons]
    have a := kn_fold_len (hs := hs) (row := row) (L := L) (br := br) (ch := ch) (ps := ps) (kn := settleF hs row L br ch kn p)
    have b : (settleF hs row L br ch kn p).1.length ≤ kn.1.length + L.length := kn_len
    rw [Nat.add_mul, Nat.one_mul]
    omega
theorem allK_ok {rs : List Rule} {row : List Str} {s : Nat} (so : SumOk rs row s) (chk : ChOk (liveOf rs) (sK s (liveOf rs).length) (chOf rs)) (bro : BrOk s (brOf rs)) : ∀ {k : Nat}, k < (strA row.length).length →
    KnOk (uK (brOf rs).length s (sK s (liveOf rs).length) k) (allK rs row k) ∧ 1 ≤ uK (brOf rs).length s (sK s (liveOf rs).length) k ∧ (allK rs row k).1.length ≤ 100000 := by
  intro k hk
  have hl : (allK rs row k).1.length ≤ 100000 := by
    have := kn_fold_len (hs := firsts rs) (row := row) (L := liveOf rs) (br := brOf rs) (ch := chOf rs) (ps := (strA row.length).take k) (kn := ([], []))
    have a := strA_len so.wl
    have b : ((strA row.length).take k).length * (liveOf rs).length ≤ 100 * 30 := Nat.mul_le_mul (by rw [List.length_take]; omega) so.ll
    unfold allK
    simp only [List.length_nil] at this
    omega
  refine ⟨?_, uK_1 k, hl⟩
  clear hl
  induction k with
  | zero => intro q hq; cases hq
  | succ k ih =>
    have hk' : k < (strA row.length).length := by omega
    have hp : (strA row.length)[k]? = some (strA row.length)[k] := List.getElem?_eq_getElem hk'
    rw [allK_succ hp]
    have brl : (brOf rs).length ≤ 30 := by
      have a : (brOf rs).length ≤ _ := List.length_filter_le _ _
      have b : (liveR (firsts rs) (liveOf rs) rs).length ≤ rs.length := List.length_filter_le _ _
      have := so.rl
      omega
    have hl : (allK rs row k).1.length ≤ 100000 := by
      have := kn_fold_len (hs := firsts rs) (row := row) (L := liveOf rs) (br := brOf rs) (ch := chOf rs) (ps := (strA row.length).take k) (kn := ([], []))
      have a := strA_len so.wl
      have b : ((strA row.length).take k).length * (liveOf rs).length ≤ 100 * 30 := Nat.mul_le_mul (by rw [List.length_take]; omega) so.ll
      unfold allK
      simp only [List.length_nil] at this
      omega
    exact SetOk.next (t := ⟨0, 0, .non, row, firsts rs, brOf rs, liveOf rs, chOf rs, .non, allK rs row k⟩) ⟨strA_lt (List.mem_of_getElem? hp), brl, so.hd, bro, ih hk', uK_1 k, chk, (so.bits k hk').1, (so.bits k hk').2, hl⟩
end L3
set_option Elab.async false
set_option linter.all false
set_option maxRecDepth 100000
set_option maxHeartbeats 4000000
namespace L3
open PySem PySem.Spec PySem.Calls PyProof.Rows L2
structure D4 (A B x y : Str) : Prop where
  ab : A ≠ B
  ax : A ≠ x
  ay : A ≠ y
  bx : B ≠ x
  by' : B ≠ y
  xy : x ≠ y
structure P4' (p0 p1 p2 p3 : Rat) : Prop where
  g0 : 0 < p0
  g1 : 0 < p1
  g2 : 0 < p2
  g3 : 0 < p3
  e1 : p0 + p1 = 1
  e2 : p2 + p3 = 1
  s0 : Sz 6 p0
  s1 : Sz 6 p1
  s2 : Sz 6 p2
  s3 : Sz 6 p3
def R8 (A B x y : Str) (p0 p1 p2 p3 : Rat) : List Rule := [(A, [B], p0), (A, [x], p1), (B, [A], p2), (B, [y], p3)]
section
variable {A B x y : Str} {p0 p1 p2 p3 : Rat}
theorem firsts8 (d : D4 A B x y) : firsts (R8 A B x y p0 p1 p2 p3) = [A, B] := by
  have := d.ab
  have := d.ab.symm
  simp [firsts, R8, addHead, *]
theorem live8 (d : D4 A B x y) : liveOf (R8 A B x y p0 p1 p2 p3) = [A, B] := by
  unfold liveOf
  rw [firsts8 d]
  unfold liveL
  have lA : Live [A, B] (R8 A B x y p0 p1 p2 p3) A := .mk (A, [x], p1) (by simp [R8]) fun z hz hh => by
    simp at hz hh
    subst hz
    rcases hh with h | h
    · exact absurd h.symm d.ax
    · exact absurd h.symm d.bx
  have lB : Live [A, B] (R8 A B x y p0 p1 p2 p3) B := .mk (B, [y], p3) (by simp [R8]) fun z hz hh => by
    simp at hz hh
    subst hz
    rcases hh with h | h
    · exact absurd h.symm d.ay
    · exact absurd h.symm d.by'
  simp [lA, lB]
theorem liveR8 (d : D4 A B x y) : liveR [A, B] [A, B] (R8 A B x y p0 p1 p2 p3) = R8 A B x y p0 p1 p2 p3 := by
  have h1 := d.ax; have h2 := d.ax.symm; have h3 := d.ay; have h4 := d.ay.symm; have h5 := d.bx; have h6 := d.bx.symm; have h7 := d.by'; have h8 := d.by'.symm
  simp [liveR, R8, okBody, *]
theorem br8 (d : D4 A B x y) : brOf (R8 A B x y p0 p1 p2 p3) = [(A, [x], p1), (B, [y], p3)] := by
  unfold brOf
  rw [live8 d, firsts8 d, liveR8 d]
  have h2 := d.ax.symm; have h4 := d.ay.symm; have h6 := d.bx.symm; have h8 := d.by'.symm
  simp [R8, isStp, *]
theorem ss8 (d : D4 A B x y) : ssOf (R8 A B x y p0 p1 p2 p3) = [(A, [B], p0), (B, [A], p2)] := by
  unfold ssOf
  rw [live8 d, firsts8 d, liveR8 d]
  have h2 := d.ax.symm; have h4 := d.ay.symm; have h6 := d.bx.symm; have h8 := d.by'.symm
  simp [R8, isStp, *]
theorem way8 (d : D4 A B x y) : wayS [(A, [B], p0), (B, [A], p2)] A A = 0 ∧ wayS [(A, [B], p0), (B, [A], p2)] A B = p0 ∧ wayS [(A, [B], p0), (B, [A], p2)] B A = p2 ∧ wayS [(A, [B], p0), (B, [A], p2)] B B = 0 := by
  have h1 := d.ab; have h2 := d.ab.symm
  simp [wayS, vA, b0, *]
def wt (p0 p2 : Rat) : Nat → Nat → Rat := fun i j => if i = 0 then (if j = 0 then 0 else p0) else (if j = 0 then p2 else 0)
theorem wM8 (d : D4 A B x y) {i j : Nat} (hi : i < 2) (hj : j < 2) : wM2 [A, B] [(A, [B], p0), (B, [A], p2)] i j = wt p0 p2 i j := by
  obtain ⟨w1, w2, w3, w4⟩ := way8 (p0 := p0) (p2 := p2) d
  unfold wM2 wt
  have : i = 0 ∨ i = 1 := by omega
  have : j = 0 ∨ j = 1 := by omega
  rcases ‹i = 0 ∨ i = 1› with rfl | rfl <;> rcases ‹j = 0 ∨ j = 1› with rfl | rfl <;> simp [w1, w2, w3, w4]
theorem id8 (d : D4 A B x y) {i j : Nat} (hi : i < 2) (hj : j < 2) : idM [A, B] i j = if i = j then 1 else 0 := by
  have h1 := d.ab; have h2 := d.ab.symm
  unfold idM
  have : i = 0 ∨ i = 1 := by omega
  have : j = 0 ∨ j = 1 := by omega
  rcases ‹i = 0 ∨ i = 1› with rfl | rfl <;> rcases ‹j = 0 ∨ j = 1› with rfl | rfl <;> simp [h1, h2]
theorem pq_lt (p : P4' p0 p1 p2 p3) : p0 * p2 < 1 := by
  have a : p0 < 1 := by have := p.e1; have := p.g1; grind
  have b : p2 < 1 := by have := p.e2; have := p.g3; grind
  have := Rat.mul_lt_mul_of_pos_left b p.g0
  grind
theorem piv8 (d : D4 A B x y) (p : P4' p0 p1 p2 p3) : Piv 2 (wM2 [A, B] [(A, [B], p0), (B, [A], p2)]) := fun k hk => by
  have e := fun i j hi hj => wM8 (p0 := p0) (p2 := p2) d (i := i) (j := j) hi hj
  rcases (show k = 0 ∨ k = 1 by omega) with rfl | rfl
  · show wM2 _ _ 0 0 < 1
    rw [e 0 0 (by decide) (by decide), show wt p0 p2 0 0 = 0 by simp [wt]]
    decide
  · show stpE (wM2 _ _) 0 1 1 < 1
    unfold stpE
    rw [if_neg (by decide), if_neg (by decide), e 1 1 (by decide) (by decide), e 1 0 (by decide) (by decide), e 0 1 (by decide) (by decide), e 0 0 (by decide) (by decide)]
    have := pq_lt p
    simp [wt]
    grind
theorem ch8 (d : D4 A B x y) (p : P4' p0 p1 p2 p3) : chOf (R8 A B x y p0 p1 p2 p3) 0 0 = 1 / (1 - p0 * p2) ∧ chOf (R8 A B x y p0 p1 p2 p3) 0 1 = p0 / (1 - p0 * p2) ∧ chOf (R8 A B x y p0 p1 p2 p3) 1 0 = p2 / (1 - p0 * p2) ∧ chOf (R8 A B x y p0 p1 p2 p3) 1 1 = 1 / (1 - p0 * p2) := by
  have e := fun i j hi hj => wM8 (p0 := p0) (p2 := p2) d (i := i) (j := j) hi hj
  have f := fun i j hi hj => id8 d (i := i) (j := j) hi hj
  have hq := pq_lt p
  have hq' : 1 - p0 * p2 ≠ 0 := by grind
  unfold chOf
  rw [live8 d, ss8 d]
  have M : ∀ i j, i < 2 → j < 4 → wM 2 (wM2 [A, B] [(A, [B], p0), (B, [A], p2)]) (idM [A, B]) i j = if j < 2 then wt p0 p2 i j else if i = j - 2 then 1 else 0 := fun i j hi hj => by
    unfold wM
    by_cases h : j < 2
    · rw [if_pos h, if_pos h, e i j hi h]
    · rw [if_neg h, if_neg h, f i (j - 2) hi (by omega)]
  unfold chF
  show EK (wM 2 (wM2 [A, B] [(A, [B], p0), (B, [A], p2)]) (idM [A, B])) 2 0 2 = _ ∧ EK (wM 2 (wM2 [A, B] [(A, [B], p0), (B, [A], p2)]) (idM [A, B])) 2 0 3 = _ ∧ EK (wM 2 (wM2 [A, B] [(A, [B], p0), (B, [A], p2)]) (idM [A, B])) 2 1 2 = _ ∧ EK (wM 2 (wM2 [A, B] [(A, [B], p0), (B, [A], p2)]) (idM [A, B])) 2 1 3 = _
  simp only [EK, stpE]
  simp only [M 0 0 (by decide) (by decide), M 0 1 (by decide) (by decide), M 0 2 (by decide) (by decide), M 0 3 (by decide) (by decide), M 1 0 (by decide) (by decide), M 1 1 (by decide) (by decide), M 1 2 (by decide) (by decide), M 1 3 (by decide) (by decide)]
  simp [wt]
  grind
theorem ends_x (d : D4 A B x y) {wo : Str → Rat} (h1 : wo x = 1) (h2 : wo y = 0) : endsF wo [(A, [x], p1), (B, [y], p3)] = ([A], [p1]) := by
  have h : (1 : Rat) ≠ 0 := by decide
  simp [endsF, endStep, b0, h1, h2, pK, pA, vA, h]
  grind
theorem ends_y (d : D4 A B x y) {wo : Str → Rat} (h1 : wo x = 0) (h2 : wo y = 1) : endsF wo [(A, [x], p1), (B, [y], p3)] = ([B], [p3]) := by
  have h : (1 : Rat) ≠ 0 := by decide
  simp [endsF, endStep, b0, h1, h2, pK, pA, vA, h]
  grind
theorem ends_0 {wo : Str → Rat} (h1 : wo x = 0) (h2 : wo y = 0) : endsF wo [(A, [x], p1), (B, [y], p3)] = ([], []) := by
  simp [endsF, endStep, b0, h1, h2]
theorem tot_1 (d : D4 A B x y) {ch : Nat → Nat → Rat} {q : Rat} : totS [A, B] ch ([A], [q]) A = ch 0 0 * q ∧ totS [A, B] ch ([A], [q]) B = ch 1 0 * q ∧ totS [A, B] ch ([B], [q]) A = ch 0 1 * q ∧ totS [A, B] ch ([B], [q]) B = ch 1 1 * q := by
  have h1 := d.ab; have h2 := d.ab.symm
  simp [totS, pairsE, sumP, chS, vA, List.idxOf_cons, h1, h2]
  grind
end
section
variable {κ α : Type} [DecidableEq κ]
theorem vA_map1 {k k' : κ} {v : α} : ∀ {ks : List κ} {xs : List α}, ks.length = xs.length → vA ks ((ks.zip xs).map fun p => if p.1 = k then v else p.2) k' = if k' = k then (if k ∈ ks then some v else none) else vA ks xs k'
  | [], [], _ => by by_cases h : k' = k <;> simp [vA, h]
  | [], _ :: _, h => by simp at h
  | _ :: _, [], h => by simp at h
  | q :: ks, x :: xs, h => by
    have ih := vA_map1 (k := k) (k' := k') (v := v) (ks := ks) (xs := xs) (by simpa using h)
    unfold vA at ih ⊢
    rw [List.zip_cons_cons, List.map_cons, List.zip_cons_cons, List.find?_cons, List.find?_cons]
    by_cases e : q = k'
    · subst e
      by_cases e2 : q = k
      · subst e2; simp
      · simp [e2]
    · rw [decide_eq_false e]
      dsimp only
      rw [ih]
      by_cases e2 : k' = k
      · subst e2
        have : ¬ k' = q := fun z => e z.symm
        simp [this]
      · simp [e2]
theorem vA_snoc {k k' : κ} {v : α} : ∀ {ks : List κ} {xs : List α}, ks.length = xs.length → k ∉ ks → vA (ks ++ [k]) (xs ++ [v]) k' = if k' = k then some v else vA ks xs k'
  | [], [], _, _ => by
    by_cases h : k' = k
    · subst h; simp [vA]
    · have : ¬ k = k' := fun z => h z.symm
      simp [vA, h, this]
  | [], _ :: _, h, _ => by simp at h
  | _ :: _, [], h, _ => by simp at h
  | q :: ks, x :: xs, h, hk => by
    have ih := vA_snoc (k := k) (k' := k') (v := v) (ks := ks) (xs := xs) (by simpa using h) fun z => hk (List.mem_cons_of_mem _ z)
    unfold vA at ih ⊢
    rw [List.cons_append, List.cons_append, List.zip_cons_cons, List.zip_cons_cons, List.find?_cons, List.find?_cons]
    by_cases e : q = k'
    · subst e
      have : ¬ q = k := fun z => hk (by simp [z])
      simp [this]
    · rw [decide_eq_false e]
      exact ih
theorem vA_put {ks : List κ} {xs : List α} {k k' : κ} {v : α} (h : ks.length = xs.length) : vA (pK ks k) (pA ks xs k v) k' = if k' = k then some v else vA ks xs k' := by
  unfold pK pA
  by_cases hk : k ∈ ks
  · rw [if_pos hk, if_pos hk, vA_map1 h, if_pos hk]
  · rw [if_neg hk, if_neg hk, vA_snoc h hk]
end
theorem getS_put {kn : Kn} {h h' : Str} {i j i' j' : Nat} {t : Rat} (hl : kn.1.length = kn.2.length) : getS (putS kn h i j t) h' i' j' = if h' = h ∧ i' = i ∧ j' = j then t else getS kn h' i' j' := by
  unfold getS putS
  dsimp only
  rw [vA_put hl]
  by_cases e : h' = h ∧ i' = i ∧ j' = j
  · rw [if_pos e, if_pos (by rw [e.1, e.2.1, e.2.2])]; rfl
  · rw [if_neg e, if_neg (fun z => e (by simpa using z))]
theorem putS_len {kn : Kn} {h : Str} {i j : Nat} {t : Rat} (hl : kn.1.length = kn.2.length) : (putS kn h i j t).1.length = (putS kn h i j t).2.length := pA_len hl
section
variable {A B x y : Str} {p0 p1 p2 p3 : Rat}
def Own (x y : Str) (p1 p3 : Rat) (w : Str) (eA eB : Rat) : Prop := (w = x ∧ eA = p1 ∧ eB = 0) ∨ (w = y ∧ eA = 0 ∧ eB = p3)
theorem wo8 (d : D4 A B x y) {row : List Str} {kn : Kn} {i j : Nat} {z w : Str} (hz : z ≠ A ∧ z ≠ B) (hi : row[i]? = some w) : woS [A, B] row kn i j z = if j = i + 1 ∧ w = z then 1 else 0 := by
  unfold woS
  rw [if_neg (by simp [hz.1, hz.2]), hi]
  simp
theorem q_ne {a b : Rat} (h1 : 0 < a) (h2 : 0 < b) : a * b ≠ 0 := by have := Rat.mul_pos h1 h2; grind
theorem settle8 (d : D4 A B x y) (p : P4' p0 p1 p2 p3) {row : List Str} {kn : Kn} {i : Nat} {w : Str} {eA eB : Rat} (ho : Own x y p1 p3 w eA eB) (hi : row[i]? = some w) :
    settleF [A, B] row [A, B] [(A, [x], p1), (B, [y], p3)] (chOf (R8 A B x y p0 p1 p2 p3)) kn (i, i + 1) = putS (putS kn A i (i + 1) ((eA + p0 * eB) / (1 - p0 * p2))) B i (i + 1) ((eB + p2 * eA) / (1 - p0 * p2)) := by
  obtain ⟨c1, c2, c3, c4⟩ := ch8 d p
  have hq := pq_lt p
  have hq' : 0 < 1 - p0 * p2 := by grind
  have hi' : 0 < (1 - p0 * p2)⁻¹ := Rat.inv_pos.mpr hq'
  have g0 := p.g0; have g1 := p.g1; have g2 := p.g2; have g3 := p.g3
  have wx := wo8 d (row := row) (kn := kn) (i := i) (j := i + 1) (z := x) (w := w) ⟨d.ax.symm, d.bx.symm⟩ hi
  have wy := wo8 d (row := row) (kn := kn) (i := i) (j := i + 1) (z := y) (w := w) ⟨d.ay.symm, d.by'.symm⟩ hi
  unfold settleF
  rcases ho with ⟨rfl, rfl, rfl⟩ | ⟨rfl, rfl, rfl⟩
  · rw [if_pos ⟨rfl, rfl⟩] at wx
    rw [if_neg (by simp [d.xy])] at wy
    dsimp only
    rw [ends_x d wx wy]
    obtain ⟨t1, t2, _, _⟩ := tot_1 d (ch := chOf (R8 A B w y p0 eA p2 p3)) (q := eA)
    rw [c1] at t1
    rw [c3] at t2
    have e1 : (1 : Rat) / (1 - p0 * p2) * eA = (eA + p0 * 0) / (1 - p0 * p2) := by grind
    have e2 : p2 / (1 - p0 * p2) * eA = (0 + p2 * eA) / (1 - p0 * p2) := by grind
    have n1 : 1 / (1 - p0 * p2) * eA ≠ 0 := q_ne (by rw [Rat.div_def, Rat.one_mul]; exact hi') g1
    have n2 : p2 / (1 - p0 * p2) * eA ≠ 0 := q_ne (by rw [Rat.div_def]; exact Rat.mul_pos g2 hi') g1
    rw [List.foldl_cons, List.foldl_cons, List.foldl_nil]
    unfold setStep
    rw [t1, t2, if_neg n1, if_neg n2, e1, e2]
  · rw [if_neg (by simp [d.xy.symm])] at wx
    rw [if_pos ⟨rfl, rfl⟩] at wy
    dsimp only
    rw [ends_y d wx wy]
    obtain ⟨_, _, t1, t2⟩ := tot_1 d (ch := chOf (R8 A B x w p0 p1 p2 eB)) (q := eB)
    rw [c2] at t1
    rw [c4] at t2
    have e1 : p0 / (1 - p0 * p2) * eB = (0 + p0 * eB) / (1 - p0 * p2) := by grind
    have e2 : 1 / (1 - p0 * p2) * eB = (eB + p2 * 0) / (1 - p0 * p2) := by grind
    have n1 : p0 / (1 - p0 * p2) * eB ≠ 0 := q_ne (by rw [Rat.div_def]; exact Rat.mul_pos g0 hi') g3
    have n2 : 1 / (1 - p0 * p2) * eB ≠ 0 := q_ne (by rw [Rat.div_def, Rat.one_mul]; exact hi') g3
    rw [List.foldl_cons, List.foldl_cons, List.foldl_nil]
    unfold setStep
    rw [t1, t2, if_neg n1, if_neg n2, e1, e2]
theorem settle0 (d : D4 A B x y) {row : List Str} {kn : Kn} {i j : Nat} {w : Str} {ch : Nat → Nat → Rat} (hi : row[i]? = some w) (hj : j ≠ i + 1) : settleF [A, B] row [A, B] [(A, [x], p1), (B, [y], p3)] ch kn (i, j) = kn := by
  have wx := wo8 d (row := row) (kn := kn) (i := i) (j := j) (z := x) (w := w) ⟨d.ax.symm, d.bx.symm⟩ hi
  have wy := wo8 d (row := row) (kn := kn) (i := i) (j := j) (z := y) (w := w) ⟨d.ay.symm, d.by'.symm⟩ hi
  rw [if_neg (fun z => hj z.1)] at wx wy
  unfold settleF
  dsimp only
  rw [ends_0 wx wy]
  rfl
theorem get1 (d : D4 A B x y) (p : P4' p0 p1 p2 p3) {w : Str} {eA eB : Rat} (ho : Own x y p1 p3 w eA eB) : getS (knOf (R8 A B x y p0 p1 p2 p3) [w]) A 0 1 = (eA + p0 * eB) / (1 - p0 * p2) ∧ getS (knOf (R8 A B x y p0 p1 p2 p3) [w]) B 0 1 = (eB + p2 * eA) / (1 - p0 * p2) := by
  unfold knOf allF
  rw [live8 d, br8 d, firsts8 d]
  show getS (settleF _ _ _ _ _ ([], []) (0, 0 + 1)) A 0 1 = _ ∧ getS (settleF _ _ _ _ _ ([], []) (0, 0 + 1)) B 0 1 = _
  rw [settle8 d p ho rfl, getS_put (putS_len rfl), getS_put (putS_len rfl), getS_put rfl]
  have := d.ab
  simp [this]
theorem get2 (d : D4 A B x y) (p : P4' p0 p1 p2 p3) {w : Str} {eA eB : Rat} (ho : Own x y p1 p3 w eA eB) : getS (knOf (R8 A B x y p0 p1 p2 p3) [w, w]) A 0 2 = 0 ∧ getS (knOf (R8 A B x y p0 p1 p2 p3) [w, w]) B 0 2 = 0 ∧ getS (knOf (R8 A B x y p0 p1 p2 p3) [w, w]) B 1 2 = (eB + p2 * eA) / (1 - p0 * p2) := by
  unfold knOf allF
  rw [live8 d, br8 d, firsts8 d]
  have e : ∀ (f : Kn → Nat × Nat → Kn), (strA [w, w].length).foldl f ([], []) = f (f (f ([], []) (0, 0 + 1)) (1, 1 + 1)) (0, 2) := fun f => rfl
  rw [e, settle0 d (w := w) rfl (by decide), settle8 d p ho rfl, settle8 d p ho rfl]
  rw [getS_put (putS_len (putS_len (putS_len rfl))), getS_put (putS_len (putS_len rfl)), getS_put (putS_len rfl), getS_put rfl, getS_put (putS_len (putS_len (putS_len rfl))), getS_put (putS_len (putS_len rfl)), getS_put (putS_len rfl), getS_put rfl, getS_put (putS_len (putS_len (putS_len rfl)))]
  simp
  constructor <;> rfl
theorem sumOk8 (d : D4 A B x y) (p : P4' p0 p1 p2 p3) {row : List Str} (hl : row.length ≤ 2) : SumOk (R8 A B x y p0 p1 p2 p3) row 6 := by
  have ha := d.ab
  have bits : ∀ k, k < 3 → max (sK 6 2) (brB 2 6 (uK 2 6 (sK 6 2) k)) ≤ 1000000 ∧ sopB 2 (max (sK 6 2) (brB 2 6 (uK 2 6 (sK 6 2) k))) ≤ big := fun k hk => by
    rcases (show k = 0 ∨ k = 1 ∨ k = 2 by omega) with rfl | rfl | rfl <;> decide
  refine ⟨by simp [R8], fun r hr => ?_, by omega, ?_, ?_, ?_, fun r hr => ?_, by decide, ?_, ?_, ?_, ?_, ?_⟩
  · simp [R8] at hr
    rcases hr with rfl | rfl | rfl | rfl <;> simp
  · rw [live8 d]; simp [ha]
  · rw [live8 d]; show 2 ≤ 30; decide
  · rw [ss8 d]; simp [b0, ha]
  · simp [R8] at hr
    rcases hr with rfl | rfl | rfl | rfl
    · exact ⟨Rat.le_of_lt p.g0, p.s0⟩
    · exact ⟨Rat.le_of_lt p.g1, p.s1⟩
    · exact ⟨Rat.le_of_lt p.g2, p.s2⟩
    · exact ⟨Rat.le_of_lt p.g3, p.s3⟩
  · rw [live8 d]; show sK 6 2 ≤ big; decide
  · rw [live8 d, ss8 d]; exact piv8 d p
  · rw [live8 d, br8 d]
    intro r hr
    simp at hr
    rcases hr with rfl | rfl <;> simp
  · rw [br8 d]
    intro r hr
    simp at hr
    rcases hr with rfl | rfl
    · exact ⟨x, rfl⟩
    · exact ⟨y, rfl⟩
  · rw [live8 d, br8 d]
    intro k hk
    refine bits k (Nat.lt_of_lt_of_le hk ?_)
    rcases (show row.length = 0 ∨ row.length = 1 ∨ row.length = 2 by omega) with h | h | h <;> rw [h] <;> decide
theorem gv8 (d : D4 A B x y) (p : P4' p0 p1 p2 p3) (hA : IsSym A) (hB : IsSym B) (hx : IsSym x) (hy : IsSym y) : GV A (R8 A B x y p0 p1 p2 p3) where
  l1 := by simp [R8]
  l2 := by simp [R8]
  ok := fun r hr => by
    simp [R8] at hr
    rcases hr with rfl | rfl | rfl | rfl
    · exact ⟨hA, by simp, by simp, by simpa using hB, p.g0⟩
    · exact ⟨hA, by simp, by simp, by simpa using hx, p.g1⟩
    · exact ⟨hB, by simp, by simp, by simpa using hA, p.g2⟩
    · exact ⟨hB, by simp, by simp, by simpa using hy, p.g3⟩
  nd := by
    have h1 := d.ab; have h2 := d.bx; have h3 := d.ay
    simp [R8, h1, h2, h3]
  st := by rw [firsts8 d]; simp
  one := fun h hh => by
    rw [firsts8 d] at hh
    have h1 := d.ab; have h2 := d.ab.symm
    have e1 := p.e1; have e2 := p.e2
    simp at hh
    rcases hh with rfl | rfl
    · simp [sumOf, R8, addIf, h2]; grind
    · simp [sumOf, R8, addIf, h1]; grind
  sz := fun r hr => by
    simp [R8] at hr
    rcases hr with rfl | rfl | rfl | rfl
    · exact p.s0.mono (by decide)
    · exact p.s1.mono (by decide)
    · exact p.s2.mono (by decide)
    · exact p.s3.mono (by decide)
end
def C_near : List D → D → Prop := fun ds d => ∃ w o t b : Rat, ds = [sh w, sh o, sh t, sh b] ∧ d = sh ((o + w * t) / (1 - w * b)) ∧ (0 ≤ w ∧ Sz 6 w) ∧ (0 ≤ o ∧ Sz 6 o) ∧ (0 ≤ t ∧ Sz 6 t) ∧ (0 ≤ b ∧ Sz 6 b) ∧ w * b < 1
theorem one_less {q : Rat} : Rat.divInt ((q.den : Int) - q.num) (q.den : Int) = 1 - q := by
  rw [← My.q_sub 1 q]
  show _ = Rat.divInt (1 * (q.den : Int) - q.num * 1) (1 * (q.den : Int))
  rw [Int.one_mul, Int.mul_one]
theorem own_nn {x y w : Str} {p0 p1 p2 p3 eA eB : Rat} (p : P4' p0 p1 p2 p3) (ho : Own x y p1 p3 w eA eB) : (0 ≤ eA ∧ Sz 6 eA) ∧ 0 ≤ eB ∧ Sz 6 eB := by
  have z : Sz 6 (0 : Rat) := sz_0.mono (by decide)
  rcases ho with ⟨_, rfl, rfl⟩ | ⟨_, rfl, rfl⟩
  · exact ⟨⟨Rat.le_of_lt p.g1, p.s1⟩, by decide, z⟩
  · exact ⟨⟨by decide, z⟩, Rat.le_of_lt p.g3, p.s3⟩
theorem half_sz {a b : Int} (ha : 1 ≤ a ∧ a ≤ 30) (hb : 1 ≤ b ∧ b ≤ 30) : 0 < Rat.divInt a (a + b) ∧ Sz 6 (Rat.divInt a (a + b)) := by
  refine ⟨?_, sz_divInt (by omega) (by omega) (by omega)⟩
  have h0 : 0 ≤ Rat.divInt a (a + b) := Rat.divInt_nonneg (by omega) (by omega)
  have hn : Rat.divInt a (a + b) ≠ 0 := fun z => by
    have h := My.q_cross (t := a) (b := a + b) (by omega)
    rw [z] at h
    have h : (0 : Int) * (a + b) = a * 1 := h
    omega
  grind
theorem half_one {a b : Int} (ha : 1 ≤ a) (hb : 1 ≤ b) : Rat.divInt a (a + b) + Rat.divInt b (a + b) = 1 := by
  rw [Rat.divInt_add_divInt _ _ (by omega) (by omega), ← Int.add_mul, rat_cut (by omega), Rat.divInt_self' (by omega)]
end L3
set_option Elab.async false
set_option linter.all false
set_option maxRecDepth 100000
set_option maxHeartbeats 4000000
namespace Law
open PySem L2 L3
theorem sc_common_divisor : FnScope ["one", "other", "rest"] ["one", "other"] (defScope s_common_divisor) := ⟨rfl, rfl, rfl, by decide +kernel, rfl, by decide +kernel, by decide +kernel⟩
theorem sc_share : FnScope ["top", "bottom", "divisor"] ["top", "bottom"] (defScope s_share) := ⟨rfl, rfl, rfl, by decide +kernel, rfl, by decide +kernel, by decide +kernel⟩
theorem sc_added : FnScope ["one", "other", "divisor", "top", "left"] ["one", "other"] (defScope s_added) := ⟨rfl, rfl, rfl, by decide +kernel, rfl, by decide +kernel, by decide +kernel⟩
theorem sc_lessened : FnScope ["one", "other"] ["one", "other"] (defScope s_lessened) := ⟨rfl, rfl, rfl, by decide +kernel, rfl, by decide +kernel, by decide +kernel⟩
theorem sc_timed : FnScope ["one", "other", "first", "second"] ["one", "other"] (defScope s_timed) := ⟨rfl, rfl, rfl, by decide +kernel, rfl, by decide +kernel, by decide +kernel⟩
theorem sc_parted : FnScope ["one", "other"] ["one", "other"] (defScope s_parted) := ⟨rfl, rfl, rfl, by decide +kernel, rfl, by decide +kernel, by decide +kernel⟩
theorem sc_sum_of_products : FnScope ["pairs", "top", "bottom", "one", "other", "below", "divisor"] ["pairs"] (defScope s_sum_of_products) := ⟨rfl, rfl, rfl, by decide +kernel, rfl, by decide +kernel, by decide +kernel⟩
theorem sc_is_less : FnScope ["one", "other"] ["one", "other"] (defScope s_is_less) := ⟨rfl, rfl, rfl, by decide +kernel, rfl, by decide +kernel, by decide +kernel⟩
theorem sc_Grammar___init__ : FnScope ["self", "start", "rules"] ["self", "start", "rules"] (defScope s_Grammar___init__) := ⟨rfl, rfl, rfl, by decide +kernel, rfl, by decide +kernel, by decide +kernel⟩
theorem sc_Grammar_start : FnScope ["self"] ["self"] (defScope s_Grammar_start) := ⟨rfl, rfl, rfl, by decide +kernel, rfl, by decide +kernel, by decide +kernel⟩
theorem sc_Grammar_rules : FnScope ["self"] ["self"] (defScope s_Grammar_rules) := ⟨rfl, rfl, rfl, by decide +kernel, rfl, by decide +kernel, by decide +kernel⟩
theorem sc_Grammar_heads : FnScope ["self"] ["self"] (defScope s_Grammar_heads) := ⟨rfl, rfl, rfl, by decide +kernel, rfl, by decide +kernel, by decide +kernel⟩
theorem sc_Grammar_live : FnScope ["self"] ["self"] (defScope s_Grammar_live) := ⟨rfl, rfl, rfl, by decide +kernel, rfl, by decide +kernel, by decide +kernel⟩
theorem sc_check_rules : FnScope ["rules", "seen", "rule"] ["rules"] (defScope s_check_rules) := ⟨rfl, rfl, rfl, by decide +kernel, rfl, by decide +kernel, by decide +kernel⟩
theorem sc_check_rule : FnScope ["rule", "symbol"] ["rule"] (defScope s_check_rule) := ⟨rfl, rfl, rfl, by decide +kernel, rfl, by decide +kernel, by decide +kernel⟩
theorem sc_check_symbol : FnScope ["text"] ["text"] (defScope s_check_symbol) := ⟨rfl, rfl, rfl, by decide +kernel, rfl, by decide +kernel, by decide +kernel⟩
theorem sc_is_symbol : FnScope ["text"] ["text"] (defScope s_is_symbol) := ⟨rfl, rfl, rfl, by decide +kernel, rfl, by decide +kernel, by decide +kernel⟩
theorem sc_is_letter : FnScope ["sign"] ["sign"] (defScope s_is_letter) := ⟨rfl, rfl, rfl, by decide +kernel, rfl, by decide +kernel, by decide +kernel⟩
theorem sc_check_start : FnScope ["start", "heads"] ["start", "heads"] (defScope s_check_start) := ⟨rfl, rfl, rfl, by decide +kernel, rfl, by decide +kernel, by decide +kernel⟩
theorem sc_check_sums : FnScope ["heads", "rules", "head", "total", "rule"] ["heads", "rules"] (defScope s_check_sums) := ⟨rfl, rfl, rfl, by decide +kernel, rfl, by decide +kernel, by decide +kernel⟩
theorem sc_heads_of : FnScope ["rules", "heads", "rule"] ["rules"] (defScope s_heads_of) := ⟨rfl, rfl, rfl, by decide +kernel, rfl, by decide +kernel, by decide +kernel⟩
theorem sc_live_of : FnScope ["heads", "rules", "live", "grown", "found"] ["heads", "rules"] (defScope s_live_of) := ⟨rfl, rfl, rfl, by decide +kernel, rfl, by decide +kernel, by decide +kernel⟩
theorem sc_has_live_body : FnScope ["head", "rules", "heads", "live"] ["head", "rules", "heads", "live"] (defScope s_has_live_body) := ⟨rfl, rfl, rfl, by decide +kernel, rfl, by decide +kernel, by decide +kernel⟩
theorem sc_is_live_body : FnScope ["body", "heads", "live"] ["body", "heads", "live"] (defScope s_is_live_body) := ⟨rfl, rfl, rfl, by decide +kernel, rfl, by decide +kernel, by decide +kernel⟩
theorem sc_stretches : FnScope ["row", "found", "length"] ["row"] (defScope s_stretches) := ⟨rfl, rfl, rfl, by decide +kernel, rfl, by decide +kernel, by decide +kernel⟩
theorem sc_solved_rows : FnScope ["ways", "ends", "rows", "k", "found"] ["ways", "ends"] (defScope s_solved_rows) := ⟨rfl, rfl, rfl, by decide +kernel, rfl, by decide +kernel, by decide +kernel⟩
theorem sc_without_itself : FnScope ["row", "k", "left"] ["row", "k"] (defScope s_without_itself) := ⟨rfl, rfl, rfl, by decide +kernel, rfl, by decide +kernel, by decide +kernel⟩
theorem sc_put_in : FnScope ["row", "k", "found", "way"] ["row", "k", "found"] (defScope s_put_in) := ⟨rfl, rfl, rfl, by decide +kernel, rfl, by decide +kernel, by decide +kernel⟩
theorem sc_cleared : FnScope ["row", "k"] ["row", "k"] (defScope s_cleared) := ⟨rfl, rfl, rfl, by decide +kernel, rfl, by decide +kernel, by decide +kernel⟩
theorem sc_Sums___init__ : FnScope ["self", "grammar", "row", "live", "rules", "i", "j"] ["self", "grammar", "row"] (defScope s_Sums___init__) := ⟨rfl, rfl, rfl, by decide +kernel, rfl, by decide +kernel, by decide +kernel⟩
theorem sc_Sums_within : FnScope ["self", "head", "i", "j"] ["self", "head", "i", "j"] (defScope s_Sums_within) := ⟨rfl, rfl, rfl, by decide +kernel, rfl, by decide +kernel, by decide +kernel⟩
theorem sc_Sums_whole : FnScope ["self"] ["self"] (defScope s_Sums_whole) := ⟨rfl, rfl, rfl, by decide +kernel, rfl, by decide +kernel, by decide +kernel⟩
theorem sc_Sums_settle : FnScope ["self", "i", "j", "ends", "head", "total"] ["self", "i", "j"] (defScope s_Sums_settle) := ⟨rfl, rfl, rfl, by decide +kernel, rfl, by decide +kernel, by decide +kernel⟩
theorem sc_Sums_ends_at : FnScope ["self", "i", "j", "ends", "rule", "worth"] ["self", "i", "j"] (defScope s_Sums_ends_at) := ⟨rfl, rfl, rfl, by decide +kernel, rfl, by decide +kernel, by decide +kernel⟩
theorem sc_Sums_worth : FnScope ["self", "symbol", "i", "j"] ["self", "symbol", "i", "j"] (defScope s_Sums_worth) := ⟨rfl, rfl, rfl, by decide +kernel, rfl, by decide +kernel, by decide +kernel⟩
theorem sc_Sums_worth_of_body : FnScope ["self", "body", "i", "j"] ["self", "body", "i", "j"] (defScope s_Sums_worth_of_body) := ⟨rfl, rfl, rfl, by decide +kernel, rfl, by decide +kernel, by decide +kernel⟩
theorem sc_live_rules : FnScope ["grammar", "heads", "live"] ["grammar"] (defScope s_live_rules) := ⟨rfl, rfl, rfl, by decide +kernel, rfl, by decide +kernel, by decide +kernel⟩
theorem sc_is_step : FnScope ["rule", "heads"] ["rule", "heads"] (defScope s_is_step) := ⟨rfl, rfl, rfl, by decide +kernel, rfl, by decide +kernel, by decide +kernel⟩
theorem sc_chains_of : FnScope ["heads", "steps", "straight", "rule", "ways", "ends", "head", "chains", "found"] ["heads", "steps"] (defScope s_chains_of) := ⟨rfl, rfl, rfl, by decide +kernel, rfl, by decide +kernel, by decide +kernel⟩
theorem sc_law_cell_at : FnScope ["_law_script", "_law_k"] ["_law_script", "_law_k"] (defScope s_law_cell_at) := ⟨rfl, rfl, rfl, by decide +kernel, rfl, by decide +kernel, by decide +kernel⟩
theorem sc_law_whole : FnScope ["_law_found"] ["_law_found"] (defScope s_law_whole) := ⟨rfl, rfl, rfl, by decide +kernel, rfl, by decide +kernel, by decide +kernel⟩
theorem sc_law_symbols : FnScope ["_law_cell", "_law_many", "_law_letters", "_law_size", "_law_at", "_law_out", "_law_k", "_law_name", "_law_place", "_law_step"] ["_law_cell", "_law_many"] (defScope s_law_symbols) := ⟨rfl, rfl, rfl, by decide +kernel, rfl, by decide +kernel, by decide +kernel⟩
theorem sc_law_share : FnScope ["_law_top", "_law_bottom", "_law_one", "_law_other", "_law_rest"] ["_law_top", "_law_bottom"] (defScope s_law_share) := ⟨rfl, rfl, rfl, by decide +kernel, rfl, by decide +kernel, by decide +kernel⟩
theorem sc_law_added : FnScope ["_law_one", "_law_other"] ["_law_one", "_law_other"] (defScope s_law_added) := ⟨rfl, rfl, rfl, by decide +kernel, rfl, by decide +kernel, by decide +kernel⟩
theorem sc_law_timed : FnScope ["_law_one", "_law_other"] ["_law_one", "_law_other"] (defScope s_law_timed) := ⟨rfl, rfl, rfl, by decide +kernel, rfl, by decide +kernel, by decide +kernel⟩
theorem sc_law_is_share : FnScope ["_law_found"] ["_law_found"] (defScope s_law_is_share) := ⟨rfl, rfl, rfl, by decide +kernel, rfl, by decide +kernel, by decide +kernel⟩
theorem sc_law_near : FnScope ["_law_way", "_law_own", "_law_other", "_law_back", "_law_top", "_law_round_so", "_law_rest"] ["_law_way", "_law_own", "_law_other", "_law_back"] (defScope s_law_near) := ⟨rfl, rfl, rfl, by decide +kernel, rfl, by decide +kernel, by decide +kernel⟩
theorem sc_law : FnScope ["_law_script", "_law_names", "_law_parts", "_law_shares", "_law_k", "_law_rules", "_law_grammar", "_law_which", "_law_word", "_law_own", "_law_sums", "_law_one", "_law_two", "_law_longer"] ["_law_script"] (defScope s_law) := ⟨rfl, rfl, rfl, by decide +kernel, rfl, by decide +kernel, by decide +kernel⟩
section
variable {P : Program} {w : World} {K : PySem.W.Frag} {mg : Str → Option Value} {base : Heap} {C_Grammar C_Sums : Addr}
theorem ok_common_divisor  (d : DefK K mg "common_divisor" s_common_divisor ["one", "other"])  : OkF P w K mg base CX0 2 "common_divisor" ["one", "other"] (spP K 2 C_gcd) := by
  refine ok_pure d sc_common_divisor rfl fun f cdv A outer s H E hr ds r hC B hB => ?_
  obtain ⟨a, b, rfl, rfl, ha, hb⟩ := hC
  refine w_while PassesOwn.never (fun Γ _ => ∃ (x y : Int) (z : Option D), Γ = [some (.int x), some (.int y), z] ∧ 0 ≤ x ∧ 0 ≤ y ∧ My.G x y = My.G a b) (fun Γ _ => match Γ with | [_, some (.int y), _] => y.toNat | _ => 0) ⟨a, b, none, rfl, ha, hb, rfl⟩ ?_
  rintro Γ Ω ⟨x, y, z, rfl, hx, hy, hg⟩
  refine ⟨_, (t_cmp (c_gt (p_var (i := 1) rfl (.inl rfl) rfl) p_int)), fun hk => ?_, fun hk => ?_⟩
  · have hk := of_decide_eq_true hk
    refine w_set (i := 2) sc_common_divisor.nd rfl (.inl rfl) (p_mod (p_var (i := 0) rfl (.inl rfl) rfl) (p_var (i := 1) rfl (.inl rfl) rfl) ?_) ?_
    · exact hk
    refine w_set (i := 0) sc_common_divisor.nd rfl (.inl rfl) (p_var (i := 1) rfl (.inl rfl) rfl) ?_
    refine w_set (i := 1) sc_common_divisor.nd rfl (.inl rfl) (p_var (i := 2) rfl (.inl rfl) rfl) ?_
    refine w_nil ⟨⟨y, x % y, _, rfl, hy, (emod_in hk).1, (G_turnE hx hk).trans hg⟩, ?_⟩
    have := emod_in (a := x) hk
    show (x % y).toNat < y.toNat
    omega
  · have hk := of_decide_eq_false hk
    refine w_ret (p_var (i := 0) rfl (.inl rfl) rfl) ?_
    have y0 : y = 0 := by omega
    subst y0
    rw [My.G_end hx] at hg
    show D.int x = D.int (My.G a b)
    rw [hg]
theorem ok_share (ht : P.given.tree = none) (d : DefK K mg "share" s_share ["top", "bottom"]) (o_common_divisor : OkF P w K mg base CX0 2 "common_divisor" ["one", "other"] (spP K 2 C_gcd)) : OkF P w K mg base CX0 33 "share" ["top", "bottom"] (spP K 2 C_share) := by
  refine ok_pure d sc_share rfl fun f cdv A outer s H E hr ds r hC B hB => ?_
  obtain ⟨t, b, rfl, rfl, h1, h2⟩ := hC
  have py : Pyl (cx0 P w K mg base ["top", "bottom", "divisor"] "share" s_share f cdv A outer s H E) := (pyl_cx ht rfl rfl hr (Nat.le_refl _)).nox
  have g0 := My.G_pos (a := t) h2
  refine w_if (t_cmp (c_lt (p_var (i := 0) rfl (.inl rfl) rfl) p_int)) ?_ ?_
  · intro hk; have hk := of_decide_eq_true hk; omega
  · intro hk
    refine w_nil ?_
    refine w_if (t_cmp (c_lt (p_var (i := 1) rfl (.inl rfl) rfl) p_int)) ?_ ?_
    · intro hk; have hk := of_decide_eq_true hk; omega
    · intro hk
      refine w_nil ?_
      refine w_set (i := 2) sc_share.nd rfl (.inl rfl) (p_call (d := .int (My.G t b)) o_common_divisor (hr.mono (by decide)) rfl (pl_cons (p_var (i := 0) rfl (.inl rfl) rfl) (pl_cons (p_var (i := 1) rfl (.inl rfl) rfl) pl_nil)) ?_) ?_
      · exact ⟨t, b, rfl, rfl, h1, Int.le_of_lt h2⟩
      refine w_ret (p_tup (pl_cons (p_fdivP py (p_var (i := 0) rfl (.inl rfl) rfl) (p_var (i := 2) rfl (.inl rfl) rfl) ?_) (pl_cons (p_fdivP py (p_var (i := 1) rfl (.inl rfl) rfl) (p_var (i := 2) rfl (.inl rfl) rfl) ?_) pl_nil))) ?_
      · exact g0
      · exact g0
      show D.tup [D.int (t / My.G t b), D.int (b / My.G t b)] = sh (Rat.divInt t b)
      unfold sh
      rw [← My.num_share h2, ← My.den_share h2, Int.fdiv_eq_ediv_of_nonneg _ (Int.le_of_lt g0), Int.fdiv_eq_ediv_of_nonneg _ (Int.le_of_lt g0)]
theorem ok_added (ht : P.given.tree = none) (d : DefK K mg "added" s_added ["one", "other"]) (o_common_divisor : OkF P w K mg base CX0 2 "common_divisor" ["one", "other"] (spP K 2 C_gcd)) : OkF P w K mg base CX0 33 "added" ["one", "other"] (spP K 2 C_added) := by
  refine ok_pure d sc_added rfl fun f cdv A outer s H E hr ds r hC B hB => ?_
  obtain ⟨p, q, m, n, rfl, rfl, hp, hq, s1, s2, l1, l2, -⟩ := hC
  have py : Pyl (cx0 P w K mg base ["one", "other", "divisor", "top", "left"] "added" s_added f cdv A outer s H E) := (pyl_cx ht rfl rfl hr (by decide)).nox
  have g0 : 0 < My.G p.den q.den := My.G_pos (My.den_pos' q)
  have n1 := My.q_num_nn hp
  have n2 := My.q_num_nn hq
  have c1 := dv_le (a := (p.den : Int)) (g := My.G p.den q.den) (Int.le_of_lt (My.den_pos' p)) g0
  have c2 := dv_le (a := (q.den : Int)) (g := My.G p.den q.den) (Int.le_of_lt (My.den_pos' q)) g0
  refine w_set (i := 2) sc_added.nd rfl (.inl rfl) (p_call (d := .int (My.G p.den q.den)) o_common_divisor (hr.mono (by decide)) rfl (pl_cons (p_ixT (p_var (i := 0) rfl (.inl rfl) rfl) p_int rfl) (pl_cons (p_ixT (p_var (i := 1) rfl (.inl rfl) rfl) p_int rfl) pl_nil)) ?_) ?_
  · exact ⟨_, _, rfl, rfl, Int.le_of_lt (My.den_pos' p), Int.le_of_lt (My.den_pos' q)⟩
  refine w_set (i := 3) sc_added.nd rfl (.inl rfl) (p_add (p_mul (p_ixT (p_var (i := 0) rfl (.inl rfl) rfl) p_int rfl) (p_fdivP py (p_ixT (p_var (i := 1) rfl (.inl rfl) rfl) p_int rfl) (p_var (i := 2) rfl (.inl rfl) rfl) ?_) ?_) (p_mul (p_ixT (p_var (i := 1) rfl (.inl rfl) rfl) p_int rfl) (p_fdivP py (p_ixT (p_var (i := 0) rfl (.inl rfl) rfl) p_int rfl) (p_var (i := 2) rfl (.inl rfl) rfl) ?_) ?_)) ?_
  · exact g0
  · exact mul_fit s1.1 (dv_fit c2 (den_abs s2)) (by have : big = 67108864 := rfl; omega)
  · exact g0
  · exact mul_fit s2.1 (dv_fit c1 (den_abs s1)) (by have : big = 67108864 := rfl; omega)
  have t0 : 0 ≤ p.num * ((q.den : Int) / My.G p.den q.den) + q.num * ((p.den : Int) / My.G p.den q.den) := Int.add_nonneg (Int.mul_nonneg n1 c2.1) (Int.mul_nonneg n2 c1.1)
  have e := My.add_num n1 n2
  generalize hT : p.num * ((q.den : Int) / My.G p.den q.den) + q.num * ((p.den : Int) / My.G p.den q.den) = T at *
  have h0 : 0 < My.G T (My.G p.den q.den) := My.G_pos g0
  have c3 := dv_le (a := (q.den : Int)) (g := My.G T (My.G p.den q.den)) (Int.le_of_lt (My.den_pos' q)) h0
  refine w_set (i := 4) sc_added.nd rfl (.inl rfl) (p_call (d := .int (My.G T (My.G p.den q.den))) o_common_divisor (hr.mono (by decide)) rfl (pl_cons (p_var (i := 3) rfl (.inl rfl) rfl) (pl_cons (p_var (i := 2) rfl (.inl rfl) rfl) pl_nil)) ?_) ?_
  · exact ⟨_, _, rfl, rfl, t0, Int.le_of_lt g0⟩
  refine w_ret (p_tup (pl_cons (p_fdivP py (p_var (i := 3) rfl (.inl rfl) rfl) (p_var (i := 4) rfl (.inl rfl) rfl) ?_) (pl_cons (p_mul (p_fdivP py (p_ixT (p_var (i := 0) rfl (.inl rfl) rfl) p_int rfl) (p_var (i := 2) rfl (.inl rfl) rfl) ?_) (p_fdivP py (p_ixT (p_var (i := 1) rfl (.inl rfl) rfl) p_int rfl) (p_var (i := 4) rfl (.inl rfl) rfl) ?_) ?_) pl_nil))) ?_
  · exact h0
  · exact g0
  · exact h0
  · exact mul_fit (dv_fit c1 (den_abs s1)) (dv_fit c3 (den_abs s2)) (by have : big = 67108864 := rfl; omega)
  show D.tup [D.int (T / My.G T (My.G p.den q.den)), D.int ((p.den : Int) / My.G p.den q.den * ((q.den : Int) / My.G T (My.G p.den q.den)))] = sh (p + q)
  unfold sh
  rw [e.1, e.2]
theorem ok_is_less  (d : DefK K mg "is_less" s_is_less ["one", "other"])  : OkF P w K mg base CX0 2 "is_less" ["one", "other"] (spP K 2 C_less) := by
  refine ok_pure d sc_is_less rfl fun f cdv A outer s H E hr ds r hC B hB => ?_
  obtain ⟨p, q, m, n, rfl, rfl, s1, s2, l1, l2⟩ := hC
  refine w_ret (p_cmp (c_lt (p_mul (p_ixT (p_var (i := 0) rfl (.inl rfl) rfl) p_int rfl) (p_ixT (p_var (i := 1) rfl (.inl rfl) rfl) p_int rfl) ?_) (p_mul (p_ixT (p_var (i := 1) rfl (.inl rfl) rfl) p_int rfl) (p_ixT (p_var (i := 0) rfl (.inl rfl) rfl) p_int rfl) ?_))) ?_
  · exact fit_nd s1 s2 l1 l2
  · exact fit_nd s2 s1 l2 l1
  · show D.bl (decide (p.num * q.den < q.num * p.den)) = D.bl (decide (p < q))
    rw [decide_eq_decide.mpr (My.q_lt p q)]
theorem ok_lessened  (d : DefK K mg "lessened" s_lessened ["one", "other"]) (o_share : OkF P w K mg base CX0 33 "share" ["top", "bottom"] (spP K 2 C_share)) (o_is_less : OkF P w K mg base CX0 2 "is_less" ["one", "other"] (spP K 2 C_less)) : OkF P w K mg base CX0 34 "lessened" ["one", "other"] (spP K 2 C_lessened) := by
  refine ok_pure d sc_lessened rfl fun f cdv A outer s H E hr ds r hC B hB => ?_
  obtain ⟨p, q, m, n, rfl, rfl, hp, hq, s1, s2, l1, l2, hle⟩ := hC
  refine w_if (t_val (p_call (d := .bl (decide (p < q))) o_is_less (hr.mono (by decide)) rfl (pl_cons (p_var (i := 0) rfl (.inl rfl) rfl) (pl_cons (p_var (i := 1) rfl (.inl rfl) rfl) pl_nil)) ?_)) ?_ ?_
  · exact ⟨p, q, m, n, rfl, rfl, s1, s2, l1, l2⟩
  · intro hk; have hk := of_decide_eq_true hk; exact absurd hk (Rat.not_lt.mpr hle)
  · intro hk
    refine w_nil ?_
    refine w_ret (p_call (d := sh (p - q)) o_share (hr.mono (by decide)) rfl (pl_cons (p_sub (p_mul (p_ixT (p_var (i := 0) rfl (.inl rfl) rfl) p_int rfl) (p_ixT (p_var (i := 1) rfl (.inl rfl) rfl) p_int rfl) ?_) (p_mul (p_ixT (p_var (i := 1) rfl (.inl rfl) rfl) p_int rfl) (p_ixT (p_var (i := 0) rfl (.inl rfl) rfl) p_int rfl) ?_)) (pl_cons (p_mul (p_ixT (p_var (i := 0) rfl (.inl rfl) rfl) p_int rfl) (p_ixT (p_var (i := 1) rfl (.inl rfl) rfl) p_int rfl) ?_) pl_nil)) ?_) ?_
    · exact fit_nd s1 s2 l1 l2
    · exact fit_nd s2 s1 l2 l1
    · exact fit_dd s1 s2 l1 l2
    · exact ⟨_, _, rfl, by rw [My.q_sub], sub_nn hle, dd_pos⟩
    · rfl
theorem ok_timed  (d : DefK K mg "timed" s_timed ["one", "other"]) (o_share : OkF P w K mg base CX0 33 "share" ["top", "bottom"] (spP K 2 C_share)) : OkF P w K mg base CX0 34 "timed" ["one", "other"] (spP K 2 C_timed) := by
  refine ok_pure d sc_timed rfl fun f cdv A outer s H E hr ds r hC B hB => ?_
  obtain ⟨p, q, m, n, rfl, rfl, hp, hq, s1, s2, l1, l2, -⟩ := hC
  have n1 := My.q_num_nn hp
  have n2 := My.q_num_nn hq
  have z1 := sz_divInt (n := max m n) (My.den_pos' q) (Nat.lt_of_lt_of_le s1.1 (pow_mono (Nat.le_max_left m n))) (Nat.lt_of_lt_of_le (den_abs s2) (pow_mono (Nat.le_max_right m n)))
  have z2 := sz_divInt (n := max m n) (My.den_pos' p) (Nat.lt_of_lt_of_le s2.1 (pow_mono (Nat.le_max_right m n))) (Nat.lt_of_lt_of_le (den_abs s1) (pow_mono (Nat.le_max_left m n)))
  refine w_set (i := 2) sc_timed.nd rfl (.inl rfl) (p_call (d := sh (Rat.divInt p.num q.den)) o_share (hr.mono (by decide)) rfl (pl_cons (p_ixT (p_var (i := 0) rfl (.inl rfl) rfl) p_int rfl) (pl_cons (p_ixT (p_var (i := 1) rfl (.inl rfl) rfl) p_int rfl) pl_nil)) ?_) ?_
  · exact ⟨_, _, rfl, rfl, n1, My.den_pos' q⟩
  refine w_set (i := 3) sc_timed.nd rfl (.inl rfl) (p_call (d := sh (Rat.divInt q.num p.den)) o_share (hr.mono (by decide)) rfl (pl_cons (p_ixT (p_var (i := 1) rfl (.inl rfl) rfl) p_int rfl) (pl_cons (p_ixT (p_var (i := 0) rfl (.inl rfl) rfl) p_int rfl) pl_nil)) ?_) ?_
  · exact ⟨_, _, rfl, rfl, n2, My.den_pos' p⟩
  refine w_ret (p_tup (pl_cons (p_mul (p_ixT (p_var (i := 2) rfl (.inl rfl) rfl) p_int rfl) (p_ixT (p_var (i := 3) rfl (.inl rfl) rfl) p_int rfl) ?_) (pl_cons (p_mul (p_ixT (p_var (i := 2) rfl (.inl rfl) rfl) p_int rfl) (p_ixT (p_var (i := 3) rfl (.inl rfl) rfl) p_int rfl) ?_) pl_nil))) ?_
  · exact fit_nn z1 z2 (by omega) (by omega)
  · exact fit_dd z1 z2 (by omega) (by omega)
  show D.tup [D.int ((Rat.divInt p.num q.den).num * (Rat.divInt q.num p.den).num), D.int (((Rat.divInt p.num q.den).den : Int) * ((Rat.divInt q.num p.den).den : Int))] = sh (p * q)
  exact (sh_mul p q).symm
theorem ok_parted (g_NOUGHT : GlobD K mg "NOUGHT" (sh 0)) (d : DefK K mg "parted" s_parted ["one", "other"]) (o_timed : OkF P w K mg base CX0 34 "timed" ["one", "other"] (spP K 2 C_timed)) : OkF P w K mg base CX0 35 "parted" ["one", "other"] (spP K 2 C_parted) := by
  refine ok_pure d sc_parted rfl fun f cdv A outer s H E hr ds r hC B hB => ?_
  obtain ⟨p, q, m, n, rfl, rfl, hp, hq, s1, s2, l1, l2, h0⟩ := hC
  have hu := hr.units
  refine w_if (t_cmp (c_eq hr.units (p_var (i := 1) rfl (.inl rfl) rfl) (p_globD g_NOUGHT rfl) kin_sh dep_sh)) ?_ ?_
  · intro hk
    rw [beq_sh] at hk
    have hk := of_decide_eq_true hk
    rw [hk] at h0
    exact absurd h0 (by decide)
  · intro hk
    refine w_nil ?_
    refine w_ret (p_call (d := sh (p / q)) o_timed (hr.mono (by decide)) rfl (pl_cons (p_var (i := 0) rfl (.inl rfl) rfl) (pl_cons (p_tup (pl_cons (p_ixT (p_var (i := 1) rfl (.inl rfl) rfl) p_int rfl) (pl_cons (p_ixT (p_var (i := 1) rfl (.inl rfl) rfl) p_int rfl) pl_nil))) pl_nil)) ?_) ?_
    · refine ⟨p, q⁻¹, m, n, by rw [sh_inv h0], by rw [Rat.div_def], hp, Rat.le_of_lt (Rat.inv_pos.mpr h0), s1, sz_inv h0 s2, l1, l2, trivial⟩
    · rfl
end
end Law
set_option Elab.async false
set_option linter.all false
set_option maxRecDepth 100000
set_option maxHeartbeats 4000000
namespace Law
open PySem L2 L3
section
variable {P : Program} {w : World} {K : PySem.W.Frag} {mg : Str → Option Value} {base : Heap} {C_Grammar C_Sums : Addr}
theorem ok_cleared (g_NOUGHT : GlobD K mg "NOUGHT" (sh 0)) (d : DefK K mg "cleared" s_cleared ["row", "k"])  : OkF P w K mg base CX0 2 "cleared" ["row", "k"] (spP K 2 C_cleared) := by
  refine ok_pure d sc_cleared rfl fun f cdv A outer s H E hr ds r hC B hB => ?_
  obtain ⟨m, k', f', rfl, rfl, hk, hm⟩ := hC
  refine w_ret (p_cat (p_cat (PF3.p (pf_slice (p_var (i := 0) rfl (.inl rfl) rfl) o_none (o_some (p_var (i := 1) rfl (.inl rfl) rfl)))) (p_lst (pl_cons (p_globD g_NOUGHT rfl) pl_nil)) ?_) (PF3.p (pf_slice (p_var (i := 0) rfl (.inl rfl) rfl) (o_some (p_add (p_var (i := 1) rfl (.inl rfl) rfl) p_int)) o_none)) ?_) ?_
  · rw [cut_tbT (by omega), tb_take (by omega), tb_len]; show k' + 1 ≤ sizeLine; unfold sizeLine; omega
  · rw [List.length_append, cut_tbT (by omega), tb_take (by omega), tb_len, cut_tbD (by omega), List.length_drop, tb_len]; show k' + 1 + _ ≤ sizeLine; unfold sizeLine; omega
  · rw [cut_tbT (by omega), cut_tbD (by omega), clr_eq hk, tb_ite]
    rfl
theorem ok_without_itself (z : Zs mg) (g_NOUGHT : GlobD K mg "NOUGHT" (sh 0)) (g_ONE : GlobD K mg "ONE" (sh 1)) (d : DefK K mg "without_itself" s_without_itself ["row", "k"]) (o_is_less : OkF P w K mg base CX0 2 "is_less" ["one", "other"] (spP K 2 C_less)) (o_lessened : OkF P w K mg base CX0 34 "lessened" ["one", "other"] (spP K 2 C_lessened)) (o_parted : OkF P w K mg base CX0 35 "parted" ["one", "other"] (spP K 2 C_parted)) (o_cleared : OkF P w K mg base CX0 2 "cleared" ["row", "k"] (spP K 2 C_cleared)) : OkF P w K mg base CX0 36 "without_itself" ["row", "k"] (spP K 2 C_without) := by
  refine ok_pure d sc_without_itself rfl fun f cdv A outer s H E hr ds r hC B hB => ?_
  obtain ⟨m, k', s', f', rfl, rfl, hk, hm, nn, hb, h1⟩ := hC
  have a := nn k' hk
  have p := sub1_pos h1
  have hu := hr.units
  have sb : Sz (1 + s' + 1) (1 - f' k') := sz_sub sz_1 a.2
  refine w_if (t_cmp (c_eq hr.units (p_ixL (d := sh (f' k')) (p_var (i := 0) rfl (.inl rfl) rfl) (p_var (i := 1) rfl (.inl rfl) rfl) ?_) (p_globD g_NOUGHT rfl) kin_sh dep_sh)) ?_ ?_
  · exact atI_tb hk
  · intro hz
    rw [beq_sh] at hz
    have hz := of_decide_eq_true hz
    refine w_ret (p_var (i := 0) rfl (.inl rfl) rfl) ?_
    refine shR_congr fun j hj => ?_
    rw [hz]
    by_cases h : j = k'
    · rw [if_pos h, h, hz]
    · rw [if_neg h]; grind
  intro _
  refine w_nil ?_
  refine w_if (t_not (t_val (p_call (d := .bl true) o_is_less (hr.mono (by decide)) rfl (pl_cons (p_ixL (d := sh (f' k')) (p_var (i := 0) rfl (.inl rfl) rfl) (p_var (i := 1) rfl (.inl rfl) rfl) ?_) (pl_cons (p_globD g_ONE rfl) pl_nil)) ?_))) ?_ ?_
  · exact atI_tb hk
  · exact ⟨f' k', 1, s', 1, rfl, by rw [decide_eq_true h1], a.2, sz_1, by omega, by decide⟩
  · intro hk; cases hk
  · intro _
    refine w_nil ?_
    refine w_set (i := 2) sc_without_itself.nd rfl (.inr rfl) (p_call (d := sh (1 - f' k')) o_lessened (hr.mono (by decide)) rfl (pl_cons (p_globD g_ONE rfl) (pl_cons (p_ixL (d := sh (f' k')) (p_var (i := 0) rfl (.inl rfl) rfl) (p_var (i := 1) rfl (.inl rfl) rfl) ?_) pl_nil)) ?_) ?_
    · exact atI_tb hk
    · exact ⟨1, f' k', 1, s', rfl, rfl, by decide, a.1, sz_1, a.2, by decide, by omega, Rat.le_of_lt h1⟩
    refine w_ret (PF3.p (pf_comp (SX := defScope s_without_itself) (XN := ["row", "k", "left"]) (N := ["way", "left"]) (nt := 1) (caps := [2]) (pre := (fun i => tb i fun j => sh (if j = k' then 0 else f' j / (1 - f' k')))) ⟨rfl, by decide +kernel, by decide +kernel, by decide +kernel, rfl, by decide +kernel⟩ (i_list (p_call (d := shR m (fun j => if j = k' then 0 else f' j)) o_cleared (hr.mono (by decide)) rfl (pl_cons (p_var (i := 0) rfl (.inl rfl) rfl) (pl_cons (p_var (i := 1) rfl (.inl rfl) rfl) pl_nil)) ?_)) ?_ ?_ ?_)) ?_
    · exact ⟨m, k', f', rfl, rfl, hk, hm⟩
    · intro i hi; rw [tb_len] at hi ⊢; unfold sizeLine; omega
    · rfl
    · intro c i d hd
      have hi : i < m := by
        have := (List.getElem?_eq_some_iff.mp hd).1
        rwa [tb_len] at this
      rw [tb_get hi] at hd
      cases hd
      refine ⟨_, (g_name (i := 0) (show List.Nodup (α := Str) ["way", "left"] by decide +kernel) rfl (.inl rfl)), (Sub.set rfl), .inl ⟨sh (if i = k' then 0 else f' i / (1 - f' k')), ts_nil, (p_call (d := sh (if i = k' then 0 else f' i / (1 - f' k'))) o_parted (hr.mono (by decide)) rfl (pl_cons (p_var (i := 0) rfl (.inl rfl) rfl) (pl_cons (p_var (i := 1) rfl (.inr (.inl rfl)) rfl) pl_nil)) ?_), ?_⟩⟩
      · refine ⟨_, 1 - f' k', s' + 1, 1 + s' + 1, rfl, ?_, ?_, Rat.le_of_lt p, ?_, sb, by omega, by omega, p⟩
        · dsimp only
          by_cases h : i = k'
          · rw [if_pos h, if_pos h]; congr 1; grind
          · rw [if_neg h, if_neg h]
        · dsimp only
          by_cases h : i = k'
          · rw [if_pos h]; decide
          · rw [if_neg h]; exact (nn i hi).1
        · dsimp only
          by_cases h : i = k'
          · rw [if_pos h]; exact sz_0.mono (by omega)
          · rw [if_neg h]; exact (nn i hi).2.mono (by omega)
      · exact tb_succ
    · rw [tb_len]; rfl
theorem ok_put_in (z : Zs mg) (g_NOUGHT : GlobD K mg "NOUGHT" (sh 0)) (d : DefK K mg "put_in" s_put_in ["row", "k", "found"]) (o_added : OkF P w K mg base CX0 33 "added" ["one", "other"] (spP K 2 C_added)) (o_timed : OkF P w K mg base CX0 34 "timed" ["one", "other"] (spP K 2 C_timed)) (o_cleared : OkF P w K mg base CX0 2 "cleared" ["row", "k"] (spP K 2 C_cleared)) : OkF P w K mg base CX0 35 "put_in" ["row", "k", "found"] (spP K 3 C_put) := by
  refine ok_pure d sc_put_in rfl fun f cdv A outer s H E hr ds r hC B hB => ?_
  obtain ⟨m, k', s', f', g', rfl, rfl, hk, hm, nn, nng, hb, hg⟩ := hC
  have a := nn k' hk
  have hu := hr.units
  refine w_set (i := 3) sc_put_in.nd rfl (.inr rfl) (p_ixL (d := sh (f' k')) (p_var (i := 0) rfl (.inl rfl) rfl) (p_var (i := 1) rfl (.inl rfl) rfl) ?_) ?_
  · exact atI_tb hk
  refine w_if (t_cmp (c_eq hr.units (p_var (i := 3) rfl (.inr (.inl rfl)) rfl) (p_globD g_NOUGHT rfl) kin_sh dep_sh)) ?_ ?_
  · intro hz
    rw [beq_sh] at hz
    have hz := of_decide_eq_true hz
    refine w_ret (p_var (i := 0) rfl (.inl rfl) rfl) ?_
    refine shR_congr fun j hj => ?_
    rw [hz]
    by_cases h : j = k'
    · rw [if_pos h, h, hz]
    · rw [if_neg h]; grind
  · intro hz
    refine w_nil ?_
    refine w_ret (PF3.p (pf_comp (SX := defScope s_put_in) (XN := ["row", "k", "found", "way"]) (N := ["kept", "more", "way"]) (nt := 2) (caps := [3]) (pre := (fun i => tb i fun j => sh (if j = k' then 0 else f' j + f' k' * g' j))) ⟨rfl, by decide +kernel, by decide +kernel, by decide +kernel, rfl, by decide +kernel⟩ (i_zip z.zip rfl (p_call (d := shR m (fun j => if j = k' then 0 else f' j)) o_cleared (hr.mono (by decide)) rfl (pl_cons (p_var (i := 0) rfl (.inl rfl) rfl) (pl_cons (p_var (i := 1) rfl (.inl rfl) rfl) pl_nil)) ?_) (p_var (i := 2) rfl (.inl rfl) rfl)) ?_ ?_ ?_)) ?_
    · exact ⟨m, k', f', rfl, rfl, hk, hm⟩
    · intro i hi
      unfold zipD at hi
      rw [List.length_map, tb_zip, tb_len] at hi
      rw [tb_len]; unfold sizeLine; omega
    · rfl
    · intro c i d hd
      unfold zipD at hd
      rw [tb_zip] at hd
      have hi : i < m := by
        have := (List.getElem?_eq_some_iff.mp hd).1
        rwa [List.length_map, tb_len] at this
      rw [List.getElem?_map, tb_get hi] at hd
      cases hd
      have zs : Sz (s' + 1) (if i = k' then 0 else f' i) := by
        by_cases h : i = k'
        · rw [if_pos h]; exact sz_0.mono (by omega)
        · rw [if_neg h]; exact (nn i hi).2.mono (by omega)
      have zn : 0 ≤ (if i = k' then 0 else f' i) := by
        by_cases h : i = k'
        · rw [if_pos h]; decide
        · rw [if_neg h]; exact (nn i hi).1
      refine ⟨_, (g_tup rfl (gl_cons (g_name (i := 0) (show List.Nodup (α := Str) ["kept", "more", "way"] by decide +kernel) rfl (.inl rfl)) (gl_cons (g_name (i := 1) (show List.Nodup (α := Str) ["kept", "more", "way"] by decide +kernel) rfl (.inl rfl)) gl_nil))), (Sub.trans (Sub.set rfl) (Sub.set rfl)), .inl ⟨sh (if i = k' then 0 else f' i + f' k' * g' i), ts_nil, (p_ite (d := sh (if i = k' then 0 else f' i + f' k' * g' i)) (t_cmp (c_eq hr.units (p_var (i := 1) rfl (.inl rfl) rfl) (p_globD g_NOUGHT rfl) kin_sh dep_sh)) (fun hc => (p_eq (p_var (i := 0) rfl (.inl rfl) rfl) ?_)) (fun hc => (p_eq (p_call (d := sh (if i = k' then 0 else f' i + f' k' * g' i)) o_added (hr.mono (by decide)) rfl (pl_cons (p_var (i := 0) rfl (.inl rfl) rfl) (pl_cons (p_call (d := sh (f' k' * g' i)) o_timed (hr.mono (by decide)) rfl (pl_cons (p_var (i := 2) rfl (.inr (.inl rfl)) rfl) (pl_cons (p_var (i := 1) rfl (.inl rfl) rfl) pl_nil)) ?_) pl_nil)) ?_) ?_))), ?_⟩⟩
      · rw [beq_sh] at hc
        have hc := of_decide_eq_true hc
        show sh (if i = k' then 0 else f' i) = sh (if i = k' then 0 else f' i + f' k' * g' i)
        rw [hc]
        congr 1
        by_cases h : i = k'
        · rw [if_pos h, if_pos h]
        · rw [if_neg h, if_neg h]; grind
      · exact ⟨f' k', g' i, s', 2 * s' + 2, rfl, rfl, a.1, (nng i hi).1, a.2, (nng i hi).2, by omega, by omega, trivial⟩
      · refine ⟨_, f' k' * g' i, s' + 1, s' + (2 * s' + 2), rfl, ?_, zn, q_nn_mul a.1 (nng i hi).1, zs, sz_mul a.2 (nng i hi).2, by omega, by omega, trivial⟩
        dsimp only
        by_cases h : i = k'
        · rw [if_pos h, if_pos h, h, hg]; congr 1; grind
        · rw [if_neg h, if_neg h]
      · rfl
      · exact tb_succ
    · unfold zipD
      rw [List.length_map, tb_zip, tb_len]; rfl
theorem ok_solved_rows (z : Zs mg) (d : DefK K mg "solved_rows" s_solved_rows ["ways", "ends"]) (o_without_itself : OkF P w K mg base CX0 36 "without_itself" ["row", "k"] (spP K 2 C_without)) (o_put_in : OkF P w K mg base CX0 35 "put_in" ["row", "k", "found"] (spP K 3 C_put)) : OkF P w K mg base CX0 37 "solved_rows" ["ways", "ends"] (spP K 2 C_rows) := by
  refine ok_pure d sc_solved_rows rfl fun f cdv A outer s H E hr ds r hC B hB => ?_
  obtain ⟨n, m, s', W, B', rfl, rfl, ⟨hn, hm, gW, ge, hb⟩, hp⟩ := hC
  have G0 := good_wM gW ge
  have pE := piv_wM (B := B') hp
  refine w_setC (i := 2) (SX := defScope s_solved_rows) (XN := ["ways", "ends", "rows", "k", "found"]) (N := ["k", "ways", "ends"]) (nt := 1) (caps := [0, 1]) (pre := (fun i => tb i fun r => shR (n + m) (wM n W B' r)))  ⟨rfl, by decide +kernel, by decide +kernel, by decide +kernel, rfl, by decide +kernel⟩ sc_solved_rows.nd rfl (.inl rfl)  (i_rangeN (n := n) z.range rfl (p_lenL z.len rfl (p_var (i := 1) rfl (.inr (.inl rfl)) rfl)) ?_ ?_) ?_ ?_ ?_ ?_
  · rw [tb_len]
  · omega
  · intro i hi; rw [nums_len] at hi; rw [tb_len]; unfold sizeLine; omega
  · rfl
  · intro c i d hd
    obtain ⟨hi, rfl⟩ := nums_lt hd
    rw [Nat.zero_add]
    refine ⟨_, (g_name (i := 0) (show List.Nodup (α := Str) ["k", "ways", "ends"] by decide +kernel) rfl (.inl rfl)), (Sub.set rfl), .inl ⟨shR (n + m) (wM n W B' i), ts_nil, (p_eq (p_cat (PF3.p (pf_list z.list rfl (p_ixL (d := shR n (W i)) (p_var (i := 1) rfl (.inr (.inl rfl)) rfl) (p_var (i := 0) rfl (.inl rfl) rfl) ?_) (.inl rfl))) (PF3.p (pf_list z.list rfl (p_ixL (d := shR m (B' i)) (p_var (i := 2) rfl (.inr (.inl rfl)) rfl) (p_var (i := 0) rfl (.inl rfl) rfl) ?_) (.inl rfl))) ?_) ?_), ?_⟩⟩
    · exact atI_tb hi
    · exact atI_tb hi
    · rw [tb_len, tb_len]; unfold sizeLine; omega
    · exact congrArg D.lst wM_row
    · exact tb_succ
  refine w_for PassesOwn.never rfl (i_rangeN (n := n) z.range rfl (p_lenL z.len rfl (p_var (i := 1) rfl (.inr (.inl rfl)) rfl)) ?_ ?_) (fun i Γ _ => ∃ a b, Γ = [some (shM n n W), some (shM n m B'), some (shM n (n + m) (EK (wM n W B') i)), a, b]) ?_ ?_ ?_
  · rw [tb_len]
  · omega
  · refine ⟨none, none, ?_⟩
    rw [nums_len]
    rfl
  · rintro k d Γ Ω hd ⟨a, b, rfl⟩
    obtain ⟨hk, rfl⟩ := nums_lt hd
    rw [Nat.zero_add]
    have Gk := G0.at (Nat.le_add_right n m) k (by omega) fun j hj => pE j (by omega)
    have hs : 4 * sK s' k + 3 ≤ big := Nat.le_trans (show sK s' (k + 1) ≤ sK s' n from sK_mono (by omega)) hb
    refine ⟨_, (g_name (i := 3) sc_solved_rows.nd rfl (.inr rfl)), ?_⟩
    refine w_set (i := 4) sc_solved_rows.nd rfl (.inr rfl) (p_call (d := shR (n + m) (fun j => if j = k then 0 else EK (wM n W B') k k j / (1 - EK (wM n W B') k k k))) o_without_itself (hr.mono (by decide)) rfl (pl_cons (p_ixL (d := shR (n + m) (EK (wM n W B') k k)) (p_var (i := 2) rfl (.inl rfl) rfl) (p_var (i := 3) rfl (.inr (.inl rfl)) rfl) ?_) (pl_cons (p_var (i := 3) rfl (.inr (.inl rfl)) rfl) pl_nil)) ?_) ?_
    · exact atI_tb hk
    · exact ⟨n + m, k, sK s' k, EK (wM n W B') k k, rfl, rfl, by omega, by omega, fun j hj => Gk k j hk hj, hs, pE k hk⟩
    refine w_setC (i := 2) (SX := defScope s_solved_rows) (XN := ["ways", "ends", "rows", "k", "found"]) (N := ["place", "row", "k", "found"]) (nt := 2) (caps := [3, 4]) (pre := (fun i => tb i fun r => shR (n + m) (stpE (EK (wM n W B') k) k r)))  ⟨rfl, by decide +kernel, by decide +kernel, by decide +kernel, rfl, by decide +kernel⟩ sc_solved_rows.nd rfl (.inl rfl)  (i_enum z.enumerate rfl (p_var (i := 2) rfl (.inl rfl) rfl)) ?_ ?_ ?_ ?_
    · intro i hi
      unfold enumD at hi
      rw [List.length_mapIdx, tb_len] at hi
      rw [tb_len]; unfold sizeLine; omega
    · rfl
    · intro c i d hd
      unfold enumD at hd
      rw [tb_mapIdx] at hd
      have hi : i < n := by
        have := (List.getElem?_eq_some_iff.mp hd).1
        rwa [tb_len] at this
      rw [tb_get hi] at hd
      cases hd
      refine ⟨_, (g_tup rfl (gl_cons (g_name (i := 0) (show List.Nodup (α := Str) ["place", "row", "k", "found"] by decide +kernel) rfl (.inl rfl)) (gl_cons (g_name (i := 1) (show List.Nodup (α := Str) ["place", "row", "k", "found"] by decide +kernel) rfl (.inl rfl)) gl_nil))), (Sub.trans (Sub.set rfl) (Sub.set rfl)), .inl ⟨shR (n + m) (stpE (EK (wM n W B') k) k i), ts_nil, (p_ite (d := shR (n + m) (stpE (EK (wM n W B') k) k i)) (t_cmp (c_eqI (p_var (i := 0) rfl (.inl rfl) rfl) (p_var (i := 2) rfl (.inr (.inl rfl)) rfl))) (fun hc => (p_eq (p_var (i := 3) rfl (.inr (.inl rfl)) rfl) ?_)) (fun hc => (p_eq (p_call (d := shR (n + m) (stpE (EK (wM n W B') k) k i)) o_put_in (hr.mono (by decide)) rfl (pl_cons (p_var (i := 1) rfl (.inl rfl) rfl) (pl_cons (p_var (i := 2) rfl (.inr (.inl rfl)) rfl) (pl_cons (p_var (i := 3) rfl (.inr (.inl rfl)) rfl) pl_nil))) ?_) ?_))), ?_⟩⟩
      · have hc := of_decide_eq_true hc
        have hc : i = k := by omega
        subst hc
        refine shR_congr fun j hj => ?_
        unfold stpE
        rw [if_pos rfl]
      · have hc := of_decide_eq_false hc
        have hc : ¬ i = k := by omega
        refine ⟨n + m, k, sK s' k, EK (wM n W B') k i, _, rfl, ?_, by omega, by omega, fun j hj => Gk i j hi hj, fun j hj => ?_, hs, if_pos rfl⟩
        · refine shR_congr fun j hj => ?_
          unfold stpE
          rw [if_neg hc]
          by_cases h : j = k
          · rw [if_pos h, if_pos h]
          · rw [if_neg h, if_neg h, if_neg h]
        · have x := (Gk.step hk (by omega) (pE k hk)) k j hk hj
          dsimp only
          by_cases h : j = k
          · rw [if_pos h]; exact ⟨by decide, sz_0.mono (by omega)⟩
          · rw [if_neg h]
            exact ⟨q_nn_div (Gk k j hk hj).1 (sub1_pos (pE k hk)), (sz_div (Gk k j hk hj).2 (sz_sub sz_1 (Gk k k hk (by omega)).2) (sub1_pos (pE k hk))).mono (by omega)⟩
      · rfl
      · exact tb_succ
    refine w_nil ?_
    unfold enumD
    rw [List.length_mapIdx, tb_len]
    exact ⟨_, _, rfl⟩
  · rintro Γ Ω ⟨a, b, rfl⟩
    rw [nums_len]
    refine w_ret (PF3.p (pf_comp (SX := defScope s_solved_rows) (XN := ["ways", "ends", "rows", "k", "found"]) (N := ["row", "ends"]) (nt := 1) (caps := [1]) (pre := (fun i => tb i fun r => shR m (fun j => EK (wM n W B') n r (n + j)))) ⟨rfl, by decide +kernel, by decide +kernel, by decide +kernel, rfl, by decide +kernel⟩ (i_list (p_var (i := 2) rfl (.inl rfl) rfl)) ?_ ?_ ?_)) ?_
    · intro i hi
      rw [tb_len] at hi ⊢
      unfold sizeLine; omega
    · rfl
    · intro c i d hd
      have hi : i < n := by
        have := (List.getElem?_eq_some_iff.mp hd).1
        rwa [tb_len] at this
      rw [tb_get hi] at hd
      cases hd
      refine ⟨_, (g_name (i := 0) (show List.Nodup (α := Str) ["row", "ends"] by decide +kernel) rfl (.inl rfl)), (Sub.set rfl), .inl ⟨shR m (fun j => EK (wM n W B') n i (n + j)), ts_nil, (p_eq (PF3.p (pf_slice (p_var (i := 0) rfl (.inl rfl) rfl) (o_some (p_lenL z.len rfl (p_var (i := 1) rfl (.inr (.inl rfl)) rfl))) o_none)) ?_), ?_⟩⟩
      · rw [tb_len, cut_drop (by rw [tb_len]; omega), tb_drop]
        rfl
      · exact tb_succ
    · rw [tb_len]
      rfl
end
end Law
set_option Elab.async false
set_option linter.all false
set_option maxRecDepth 100000
set_option maxHeartbeats 4000000
namespace Law
open PySem L2 L3
section
variable {P : Program} {w : World} {K : PySem.W.Frag} {mg : Str → Option Value} {base : Heap} {C_Grammar C_Sums : Addr}
theorem ok_is_letter  (d : DefK K mg "is_letter" s_is_letter ["sign"])  : OkF P w K mg base CX0 2 "is_letter" ["sign"] (spP K 1 C_letter) := by
  refine ok_pure d sc_is_letter rfl fun f cdv A outer s H E hr ds r hC B hB => ?_
  obtain ⟨c, rfl, rfl⟩ := hC
  refine w_ret (p_or (p_chainS p_str (p_var (i := 0) rfl (.inl rfl) rfl) p_str) fun _ => (p_one (p_chainS p_str (p_var (i := 0) rfl (.inl rfl) rfl) p_str))) ?_
  show D.bl ((leS "a" ⟨#[c]⟩ && leS ⟨#[c]⟩ "z") || (leS "A" ⟨#[c]⟩ && leS ⟨#[c]⟩ "Z")) = D.bl (isLet c)
  rw [leS_l (n := 97) (by decide +kernel), leS_r (n := 122) (by decide +kernel), leS_l (n := 65) (by decide +kernel), leS_r (n := 90) (by decide +kernel)]
  rfl
theorem ok_is_symbol (z : Zs mg) (g_MOST_LETTERS : GlobD K mg "MOST_LETTERS" (.int 8)) (d : DefK K mg "is_symbol" s_is_symbol ["text"]) (o_is_letter : OkF P w K mg base CX0 2 "is_letter" ["sign"] (spP K 1 C_letter)) : OkF P w K mg base CX0 3 "is_symbol" ["text"] (spP K 1 C_isSym) := by
  refine ok_pure d sc_is_symbol rfl fun f cdv A outer s H E hr ds r hC B hB => ?_
  obtain ⟨x, rfl, rfl, h1, h2⟩ := hC
  have hl : x.length = x.cps.size := rfl
  refine w_ret (p_and (p_chainI2 p_int (p_lenS z.len rfl (p_var (i := 0) rfl (.inl rfl) rfl) ?_) (p_globD g_MOST_LETTERS rfl)) fun _ => (p_one (p_all rfl z.all rfl (PF3.p (pf_comp (SX := defScope s_is_symbol) (XN := ["text"]) (N := ["sign"]) (nt := 1) (caps := []) (pre := (fun i => ((x.cps.toList.take i).map isLet).map D.bl)) ⟨rfl, by decide +kernel, by decide +kernel, by decide +kernel, rfl, by decide +kernel⟩ (i_text (p_var (i := 0) rfl (.inl rfl) rfl) ?_) ?_ ?_ ?_))))) ?_
  · rw [hl, sizeLine_eq]; omega
  · exact h2
  · intro i hi
    rw [List.length_map, List.length_map, List.length_take, sizeLine_eq]
    simp only [Array.length_toList]
    omega
  · rfl
  · intro c i d hd
    obtain ⟨n, hn, rfl⟩ := signs_get hd
    refine ⟨_, (g_name (i := 0) (show List.Nodup (α := Str) ["sign"] by decide +kernel) rfl (.inl rfl)), (Sub.set rfl), .inl ⟨.bl (isLet n), ts_nil, (p_call (d := .bl (isLet n)) o_is_letter (hr.mono (by decide)) rfl (pl_cons (p_var (i := 0) rfl (.inl rfl) rfl) pl_nil) ?_), ?_⟩⟩
    · exact ⟨n, rfl, rfl⟩
    · dsimp only; rw [take_get hn, List.map_append, List.map_append]; rfl
  show D.bl _ = D.bl _
  congr 1
  rw [signs_len, ← Array.length_toList, List.take_length, List.all_map, Bool.eq_iff_iff, isSymB_iff]
  simp only [Bool.and_eq_true, decide_eq_true_eq, List.all_eq_true, IsSym]
  rw [hl]
  constructor
  · intro h; exact ⟨by omega, by omega, fun c hc => h.2 c hc⟩
  · intro h; exact ⟨⟨by omega, by omega⟩, fun c hc => h.2.2 c hc⟩
theorem ok_check_symbol (z : Zs mg) (g_MOST_LETTERS : GlobD K mg "MOST_LETTERS" (.int 8)) (d : DefK K mg "check_symbol" s_check_symbol ["text"]) (o_is_symbol : OkF P w K mg base CX0 3 "is_symbol" ["text"] (spP K 1 C_isSym)) : OkF P w K mg base CX0 4 "check_symbol" ["text"] (spP K 1 C_symbol) := by
  refine ok_pure d sc_check_symbol rfl fun f cdv A outer s H E hr ds r hC B hB => ?_
  obtain ⟨x, rfl, rfl, hx⟩ := hC
  have e : isSymB x = true := isSymB_iff.mpr hx
  refine w_if (t_not (t_val (p_call (d := .bl (isSymB x)) o_is_symbol (hr.mono (by decide)) rfl (pl_cons (p_var (i := 0) rfl (.inl rfl) rfl) pl_nil) ?_))) ?_ ?_
  · exact ⟨x, rfl, rfl, by have := hx.2.1; omega, sym_ascii hx⟩
  · intro hk
    rw [e] at hk
    exact absurd hk (by decide)
  · intro _
    exact w_nil (w_nil rfl)
theorem ok_check_rule (z : Zs mg) (g_NOUGHT : GlobD K mg "NOUGHT" (sh 0)) (g_MOST_SYMBOLS : GlobD K mg "MOST_SYMBOLS" (.int 4)) (d : DefK K mg "check_rule" s_check_rule ["rule"]) (o_check_symbol : OkF P w K mg base CX0 4 "check_symbol" ["text"] (spP K 1 C_symbol)) : OkF P w K mg base CX0 5 "check_rule" ["rule"] (spP K 1 C_rule) := by
  refine ok_pure d sc_check_rule rfl fun f cdv A outer s H E hr ds r hC B hB => ?_
  obtain ⟨r, rfl, rfl, h1, h2, h3, h4, h5⟩ := hC
  refine w_expr (p_call (d := .non) o_check_symbol (hr.mono (by decide)) rfl (pl_cons (p_ixT (p_var (i := 0) rfl (.inl rfl) rfl) p_int rfl) pl_nil) ?_) ?_
  · exact ⟨r.1, rfl, rfl, h1⟩
  refine w_if (PW3.t (tw_or (t_cmp (c_lt (p_lenT z.len rfl (p_ixT (p_var (i := 0) rfl (.inl rfl) rfl) p_int rfl)) p_int)) fun _ => (tw_or1 (t_cmp (c_gt (p_lenT z.len rfl (p_ixT (p_var (i := 0) rfl (.inl rfl) rfl) p_int rfl)) (p_globD g_MOST_SYMBOLS rfl)))))) ?_ ?_
  · intro hk
    rw [show (r.2.1.map D.str).length = r.2.1.length from List.length_map _] at hk
    simp at hk
    omega
  · intro _
    refine w_nil ?_
    refine w_for PassesOwn.never rfl (i_tup (p_ixT (p_var (i := 0) rfl (.inl rfl) rfl) p_int rfl)) (fun i Γ Ω => ∃ x, Γ = [some (ruleD r), x] ∧ Ω = []) ⟨_, rfl, rfl⟩ ?_ ?_
    · rintro i d Γ Ω hd ⟨x, rfl, rfl⟩
      obtain ⟨y, hy, rfl⟩ := strsD_get hd
      refine ⟨_, (g_name (i := 1) sc_check_rule.nd rfl (.inl rfl)), ?_⟩
      refine w_expr (p_call (d := .non) o_check_symbol (hr.mono (by decide)) rfl (pl_cons (p_var (i := 1) rfl (.inl rfl) rfl) pl_nil) ?_) ?_
      · exact ⟨y, rfl, rfl, h4 y (List.mem_of_getElem? hy)⟩
      exact w_nil ⟨_, rfl, rfl⟩
    · rintro Γ Ω ⟨x, rfl, rfl⟩
      refine w_if (t_cmp (c_eq hr.units (p_ixT (p_var (i := 0) rfl (.inl rfl) rfl) p_int rfl) (p_globD g_NOUGHT rfl) kin_sh dep_sh)) ?_ ?_
      · intro hk
        rw [beq_sh] at hk
        rw [of_decide_eq_true hk] at h5
        exact absurd h5 (by decide)
      · intro _
        exact w_nil (w_nil rfl)
theorem ok_check_rules (z : Zs mg) (g_MOST_RULES : GlobD K mg "MOST_RULES" (.int 30)) (d : DefK K mg "check_rules" s_check_rules ["rules"]) (o_check_rule : OkF P w K mg base CX0 5 "check_rule" ["rule"] (spP K 1 C_rule)) : OkF P w K mg base CX0 6 "check_rules" ["rules"] (spP K 1 C_rules) := by
  refine ok_pure d sc_check_rules rfl fun f cdv A outer s H E hr ds r hC B hB => ?_
  obtain ⟨rs, rfl, rfl, h1, h2, h3, h4⟩ := hC
  refine w_if (PW3.t (tw_or (t_cmp (c_lt (p_lenL z.len rfl (p_var (i := 0) rfl (.inl rfl) rfl)) p_int)) fun _ => (tw_or1 (t_cmp (c_gt (p_lenL z.len rfl (p_var (i := 0) rfl (.inl rfl) rfl)) (p_globD g_MOST_RULES rfl)))))) ?_ ?_
  · intro hk
    rw [rulesD_len] at hk
    simp at hk
    omega
  · intro _
    refine w_nil ?_
    refine w_setV (i := 1) sc_check_rules.nd rfl (.inl rfl) (v_dnew fun l => ?_)
    refine w_for PassesOwn.never rfl (i_list (p_var (i := 0) rfl (.inl rfl) rfl)) (fun i Γ Ω => ∃ x, Γ = [some (.lst (rulesD rs)), some (.raw (.ref l)), x] ∧ Ω = [(l, oDic P w K l (seenD (rs.take i)))]) ⟨_, rfl, rfl⟩ ?_ ?_
    · rintro i d Γ Ω hd ⟨x, rfl, rfl⟩
      obtain ⟨r, hr', rfl⟩ := rulesD_get hd
      have hn := nodup_take (f := fun r : Rule => (r.1, r.2.1)) h4 hr'
      refine ⟨_, (g_name (i := 2) sc_check_rules.nd rfl (.inl rfl)), ?_⟩
      refine w_expr (p_call (d := .non) o_check_rule (hr.mono (by decide)) rfl (pl_cons (p_var (i := 2) rfl (.inl rfl) rfl) pl_nil) ?_) ?_
      · exact ⟨r, rfl, rfl, h3 r (List.mem_of_getElem? hr')⟩
      refine w_ifV (vt_inD hr.units (v_pure (p_tup (pl_cons (p_ixT (p_var (i := 2) rfl (.inl rfl) rfl) p_int rfl) (pl_cons (p_ixT (p_var (i := 2) rfl (.inl rfl) rfl) p_int rfl) pl_nil))) ⟨keyR r, keyR_eq r, v_pure (p_var (i := 1) rfl (.inl rfl) rfl) ⟨l, _, rfl, List.mem_singleton.mpr rfl, fun hk => ?_, fun _ => ?_⟩⟩))
      · rw [seen_not hn] at hk
        cases hk
      · refine w_nil ?_
        refine w_setD hr.units (v_pure p_bl (v_pure (p_var (i := 1) rfl (.inl rfl) rfl) ⟨l, rfl, v_pure (p_tup (pl_cons (p_ixT (p_var (i := 2) rfl (.inl rfl) rfl) p_int rfl) (pl_cons (p_ixT (p_var (i := 2) rfl (.inl rfl) rfl) p_int rfl) pl_nil))) ⟨keyR r, _, [], keyR_eq r, List.Perm.refl _, ?_, ?_⟩⟩))
        · unfold seenD
          rw [List.length_map, List.length_take, sizeLine_eq]
          omega
        · refine w_nil ⟨_, rfl, ?_⟩
          rw [seen_put hn, take_get hr']
          rfl
    · rintro Γ Ω ⟨x, rfl, rfl⟩
      exact w_nil rfl
theorem ok_check_start  (d : DefK K mg "check_start" s_check_start ["start", "heads"])  : OkF P w K mg base CX0 2 "check_start" ["start", "heads"] (spP K 2 C_start) := by
  refine ok_pure d sc_check_start rfl fun f cdv A outer s H E hr ds r hC B hB => ?_
  obtain ⟨x, hs, rfl, rfl, hx⟩ := hC
  refine w_if (t_cmp (c_notIn hr.units (p_var (i := 0) rfl (.inl rfl) rfl) (p_var (i := 1) rfl (.inl rfl) rfl) (.inl rfl) ?_)) ?_ ?_
  · exact strs_kin
  · intro hk
    rw [in_strs, decide_eq_true hx] at hk
    cases hk
  · intro _
    exact w_nil (w_nil rfl)
theorem ok_check_sums (g_NOUGHT : GlobD K mg "NOUGHT" (sh 0)) (g_ONE : GlobD K mg "ONE" (sh 1)) (d : DefK K mg "check_sums" s_check_sums ["heads", "rules"]) (o_added : OkF P w K mg base CX0 33 "added" ["one", "other"] (spP K 2 C_added)) : OkF P w K mg base CX0 34 "check_sums" ["heads", "rules"] (spP K 2 C_sums) := by
  refine ok_pure d sc_check_sums rfl fun f cdv A outer s H E hr ds r hC B hB => ?_
  obtain ⟨hs, rs, rfl, rfl, h1, h2, h3⟩ := hC
  refine w_for PassesOwn.never rfl (i_list (p_var (i := 0) rfl (.inl rfl) rfl)) (fun i Γ Ω => ∃ x2 x3 x4, Γ = [some (.lst (strsD hs)), some (.lst (rulesD rs)), x2, x3, x4] ∧ Ω = []) ⟨_, _, _, rfl, rfl⟩ ?_ ?_
  · rintro i d Γ Ω hd ⟨x2, x3, x4, rfl, rfl⟩
    obtain ⟨h, hh, rfl⟩ := strsD_get hd
    refine ⟨_, (g_name (i := 2) sc_check_sums.nd rfl (.inl rfl)), ?_⟩
    refine w_set (i := 3) sc_check_sums.nd rfl (.inl rfl) (p_globD g_NOUGHT rfl) ?_
    refine w_for PassesOwn.never rfl (i_list (p_var (i := 1) rfl (.inl rfl) rfl)) (fun j Γ Ω => ∃ (t : Rat) (x4 : Option D), (0 ≤ t ∧ Sz (1 + j * 1001) t) ∧ t = sumOf h (rs.take j) ∧ Γ = [some (.lst (strsD hs)), some (.lst (rulesD rs)), some (.str h), some (sh t), x4] ∧ Ω = []) ⟨0, _, ⟨by decide, sz_0⟩, rfl, rfl, rfl⟩ ?_ ?_
    · rintro j d Γ Ω hd ⟨t, x4, ht, et, rfl, rfl⟩
      obtain ⟨r, hr', rfl⟩ := rulesD_get hd
      have hj : j < rs.length := (List.getElem?_eq_some_iff.mp hr').1
      have hq := h3 r (List.mem_of_getElem? hr')
      have ef : sumOf h (rs.take (j + 1)) = addIf h t r := by rw [take_get hr']; unfold sumOf at et ⊢; rw [List.foldl_append, ← et]; rfl
      have ht' := sz_sumI ht hq
      refine ⟨_, (g_name (i := 4) sc_check_sums.nd rfl (.inl rfl)), ?_⟩
      refine w_if (t_cmp (c_eqS (p_ixT (p_var (i := 4) rfl (.inl rfl) rfl) p_int rfl) (p_var (i := 2) rfl (.inl rfl) rfl))) ?_ ?_
      · intro hk
        have hk := of_decide_eq_true hk
        refine w_set (i := 3) sc_check_sums.nd rfl (.inl rfl) (p_call (d := sh (t + r.2.2)) o_added (hr.mono (by decide)) rfl (pl_cons (p_var (i := 3) rfl (.inl rfl) rfl) (pl_cons (p_ixT (p_var (i := 4) rfl (.inl rfl) rfl) p_int rfl) pl_nil)) ?_) ?_
        · exact ⟨t, r.2.2, 1 + j * 1001, 1000, rfl, rfl, ht.1, hq.1, ht.2, hq.2, by have : big = 67108864 := rfl; omega, by decide, trivial⟩
        exact w_nil (w_nil ⟨_, _, ht', by rw [ef]; exact (if_pos hk).symm, rfl, rfl⟩)
      · intro hk
        have hk := of_decide_eq_false hk
        exact w_nil (w_nil ⟨t, _, ⟨ht.1, ht.2.mono (by omega)⟩, by rw [ef]; exact (if_neg hk).symm, rfl, rfl⟩)
    · rintro Γ Ω ⟨t, x4, ht, et, rfl, rfl⟩
      rw [rulesD_len, List.take_length, h2 h (List.mem_of_getElem? hh)] at et
      subst et
      refine w_if (t_cmp (c_ne hr.units (p_var (i := 3) rfl (.inl rfl) rfl) (p_globD g_ONE rfl) kin_sh dep_sh)) ?_ ?_
      · intro hk
        rw [beq_sh] at hk
        simp at hk
      · intro _
        exact w_nil (w_nil ⟨_, _, _, rfl, rfl⟩)
  · rintro Γ Ω ⟨x2, x3, x4, rfl, rfl⟩
    exact w_nil rfl
theorem ok_heads_of  (d : DefK K mg "heads_of" s_heads_of ["rules"])  : OkF P w K mg base CX0 2 "heads_of" ["rules"] (spP K 1 C_heads) := by
  refine ok_pure d sc_heads_of rfl fun f cdv A outer s H E hr ds r hC B hB => ?_
  obtain ⟨rs, rfl, rfl, h1⟩ := hC
  refine w_own (i := 1) sc_heads_of.nd rfl (.inl rfl) (pf_lst pl_nil) fun l => ?_
  refine w_for PassesOwn.never rfl (i_list (p_var (i := 0) rfl (.inl rfl) rfl)) (fun i Γ Ω => ∃ (acc : List Str) (x : Option D), acc = (rs.take i).foldl addHead [] ∧ acc.length ≤ i ∧ Γ = [some (.lst (rulesD rs)), some (.raw (.ref l)), x] ∧ Ω = [(l, oLst K (strsD acc))]) ⟨[], _, rfl, Nat.le_refl _, rfl, rfl⟩ ?_ ?_
  · rintro i d Γ Ω hd ⟨acc, x, ea, la, rfl, rfl⟩
    obtain ⟨r, hr', rfl⟩ := rulesD_get hd
    have hi : i < rs.length := (List.getElem?_eq_some_iff.mp hr').1
    have en : (rs.take (i + 1)).foldl addHead [] = addHead acc r := by rw [take_get hr', List.foldl_append, ← ea]; rfl
    refine ⟨_, (g_name (i := 2) sc_heads_of.nd rfl (.inl rfl)), ?_⟩
    refine w_ifV (vt_lend (Γ' := [some (.lst (rulesD rs)), some (.lst (strsD acc)), some (ruleD r)]) (t_cmp (c_notIn hr.units (p_ixT (p_var (i := 2) rfl (.inl rfl) rfl) p_int rfl) (p_var (i := 1) rfl (.inl rfl) rfl) (.inl rfl) ?_)) (lent_set (i := 1) lent_refl rfl (List.mem_singleton.mpr rfl) lends_lst) ⟨fun hk => ?_, fun hk => ?_⟩)
    · exact strs_kin
    · rw [in_strs] at hk
      have hn : r.1 ∉ acc := by simpa using hk
      refine w_append (i := 1) rfl (.inl rfl) rfl (p_ixT (p_var (i := 2) rfl (.inl rfl) rfl) p_int rfl) (by rw [strsD_len, sizeLine_eq]; omega) ?_
      refine w_nil (w_nil ⟨acc ++ [r.1], _, ?_, ?_, rfl, ?_⟩)
      · rw [en]; exact (if_neg hn).symm
      · rw [List.length_append]; exact Nat.succ_le_succ la
      · unfold strsD; rw [List.map_append]; rfl
    · rw [in_strs] at hk
      have hn : r.1 ∈ acc := by simpa using hk
      exact w_nil (w_nil ⟨acc, _, by rw [en]; exact (if_pos hn).symm, by omega, rfl, rfl⟩)
  · rintro Γ Ω ⟨acc, x, ea, la, rfl, rfl⟩
    rw [rulesD_len, List.take_length] at ea
    refine w_freeze (i := 1) rfl ?_
    refine w_ret (p_var (i := 1) rfl (.inl rfl) rfl) ?_
    rw [ea]
    rfl
theorem ok_is_live_body (z : Zs mg) (d : DefK K mg "is_live_body" s_is_live_body ["body", "heads", "live"])  : OkF P w K mg base CX0 2 "is_live_body" ["body", "heads", "live"] (spP K 3 C_liveBody) := by
  refine ok_pure d sc_is_live_body rfl fun f cdv A outer s H E hr ds r hC B hB => ?_
  obtain ⟨b, hs, L, rfl, rfl, h1⟩ := hC
  refine w_ret (p_all rfl z.all rfl (PF3.p (pf_comp (SX := defScope s_is_live_body) (XN := ["body", "heads", "live"]) (N := ["symbol", "heads", "live"]) (nt := 1) (caps := [1, 2]) (pre := (fun i => ((b.take i).map fun x => decide (x ∈ L) || !decide (x ∈ hs)).map D.bl)) ⟨rfl, by decide +kernel, by decide +kernel, by decide +kernel, rfl, by decide +kernel⟩ (i_tup (p_var (i := 0) rfl (.inl rfl) rfl)) ?_ ?_ ?_))) ?_
  · intro i hi
    rw [List.length_map, List.length_map, List.length_take, sizeLine_eq]
    omega
  · rfl
  · intro c i d hd
    obtain ⟨x, hx, rfl⟩ := strsD_get hd
    refine ⟨_, (g_name (i := 0) (show List.Nodup (α := Str) ["symbol", "heads", "live"] by decide +kernel) rfl (.inl rfl)), (Sub.set rfl), .inl ⟨.bl (decide (x ∈ L) || !decide (x ∈ hs)), ts_nil, (p_eq (p_or (p_cmp (c_in hr.units (p_var (i := 0) rfl (.inl rfl) rfl) (p_var (i := 2) rfl (.inr (.inl rfl)) rfl) (.inl rfl) ?_)) fun _ => (p_one (p_cmp (c_notIn hr.units (p_var (i := 0) rfl (.inl rfl) rfl) (p_var (i := 1) rfl (.inr (.inl rfl)) rfl) (.inl rfl) ?_)))) ?_), ?_⟩⟩
    · exact strs_kin
    · exact strs_kin
    · rw [in_strs, in_strs]
    · dsimp only; rw [take_get hx, List.map_append, List.map_append]; rfl
  · rw [show (b.map D.str).length = b.length from List.length_map _, List.take_length]
    show D.bl ((b.map fun x => decide (x ∈ L) || !decide (x ∈ hs)).all id) = D.bl (okBody hs L b)
    rw [List.all_map]
    rfl
theorem ok_has_live_body (z : Zs mg) (d : DefK K mg "has_live_body" s_has_live_body ["head", "rules", "heads", "live"]) (o_is_live_body : OkF P w K mg base CX0 2 "is_live_body" ["body", "heads", "live"] (spP K 3 C_liveBody)) : OkF P w K mg base CX0 3 "has_live_body" ["head", "rules", "heads", "live"] (spP K 4 C_hasLive) := by
  refine ok_pure d sc_has_live_body rfl fun f cdv A outer s H E hr ds r hC B hB => ?_
  obtain ⟨h, rs, hs, L, rfl, rfl, h1, h2⟩ := hC
  refine w_ret (p_any rfl z.any rfl (PF3.p (pf_comp (SX := defScope s_has_live_body) (XN := ["head", "rules", "heads", "live"]) (N := ["rule", "head", "heads", "live"]) (nt := 1) (caps := [0, 2, 3]) (pre := (fun i => ((rs.take i).map fun r => decide (r.1 = h) && okBody hs L r.2.1).map D.bl)) ⟨rfl, by decide +kernel, by decide +kernel, by decide +kernel, rfl, by decide +kernel⟩ (i_list (p_var (i := 1) rfl (.inl rfl) rfl)) ?_ ?_ ?_))) ?_
  · intro i hi
    rw [List.length_map, List.length_map, List.length_take, sizeLine_eq]
    omega
  · rfl
  · intro c i d hd
    obtain ⟨r, hr', rfl⟩ := rulesD_get hd
    refine ⟨_, (g_name (i := 0) (show List.Nodup (α := Str) ["rule", "head", "heads", "live"] by decide +kernel) rfl (.inl rfl)), (Sub.set rfl), .inl ⟨.bl (decide (r.1 = h) && okBody hs L r.2.1), ts_nil, (p_and (p_cmp (c_eqS (p_ixT (p_var (i := 0) rfl (.inl rfl) rfl) p_int rfl) (p_var (i := 1) rfl (.inr (.inl rfl)) rfl))) fun _ => (p_one (p_call (d := .bl (okBody hs L r.2.1)) o_is_live_body (hr.mono (by decide)) rfl (pl_cons (p_ixT (p_var (i := 0) rfl (.inl rfl) rfl) p_int rfl) (pl_cons (p_var (i := 2) rfl (.inr (.inl rfl)) rfl) (pl_cons (p_var (i := 3) rfl (.inr (.inl rfl)) rfl) pl_nil))) ?_))), ?_⟩⟩
    · exact ⟨r.2.1, hs, L, rfl, rfl, h2 r (List.mem_of_getElem? hr')⟩
    · dsimp only; rw [take_get hr', List.map_append, List.map_append]; rfl
  · rw [rulesD_len, List.take_length]
    show D.bl ((rs.map fun r => decide (r.1 = h) && okBody hs L r.2.1).any id) = D.bl (hasBody rs hs L h)
    rw [List.any_map]
    rfl
theorem ok_live_of (z : Zs mg) (d : DefK K mg "live_of" s_live_of ["heads", "rules"]) (o_has_live_body : OkF P w K mg base CX0 3 "has_live_body" ["head", "rules", "heads", "live"] (spP K 4 C_hasLive)) : OkF P w K mg base CX0 4 "live_of" ["heads", "rules"] (spP K 2 C_liveOf) := by
  refine ok_pure d sc_live_of rfl fun f cdv A outer s H E hr ds r hC B hB => ?_
  obtain ⟨hs, rs, rfl, rfl, h1, h2, h3, h4⟩ := hC
  refine w_set (i := 2) sc_live_of.nd rfl (.inr rfl) (p_lst pl_nil) ?_
  refine w_set (i := 3) sc_live_of.nd rfl (.inl rfl) p_bl ?_
  refine w_while PassesOwn.never (fun Γ _ => ∃ (L : List Str) (b : Bool) (x : Option D), Γ = [some (.lst (strsD hs)), some (.lst (rulesD rs)), some (.lst (strsD L)), some (.bl b), x] ∧ ((b = true ∧ Stage hs rs L) ∨ (b = false ∧ L = liveL hs rs))) (fun Γ _ => match Γ with | [_, _, some (.lst ds), some (.bl b), _] => if b then hs.length + 1 - ds.length else 0 | _ => 0) ⟨[], true, none, rfl, .inl ⟨rfl, stage_nil⟩⟩ ?_
  rintro Γ Ω ⟨L, b, x, rfl, hb⟩
  refine ⟨_, (t_val (p_var (i := 3) rfl (.inl rfl) rfl)), fun hk => ?_, fun hk => ?_⟩
  · obtain ⟨rfl, st⟩ : b = true ∧ Stage hs rs L := hb.resolve_right fun h => by rw [h.1] at hk; cases hk
    refine w_setC (i := 4) (SX := defScope s_live_of) (XN := ["heads", "rules", "live", "grown", "found"]) (N := ["head", "heads", "rules", "live"]) (nt := 1) (caps := [0, 1, 2]) (pre := (fun i => strsD ((hs.take i).filter (hasBody rs hs L))))  ⟨rfl, by decide +kernel, by decide +kernel, by decide +kernel, rfl, by decide +kernel⟩ sc_live_of.nd rfl (.inl rfl)  (i_list (p_var (i := 0) rfl (.inr (.inl rfl)) rfl)) ?_ ?_ ?_ ?_
    · intro i hi
      rw [strsD_len, sizeLine_eq]
      have := List.length_filter_le (hasBody rs hs L) (hs.take i)
      rw [List.length_take] at this
      omega
    · rfl
    · intro c i d hd
      obtain ⟨h, hh, rfl⟩ := strsD_get hd
      cases q : hasBody rs hs L h with
      | true =>
        refine ⟨_, (g_name (i := 0) (show List.Nodup (α := Str) ["head", "heads", "rules", "live"] by decide +kernel) rfl (.inl rfl)), (Sub.set rfl), .inl ⟨.str h, (ts_one (t_val (p_call (d := .bl true) o_has_live_body (hr.mono (by decide)) rfl (pl_cons (p_var (i := 0) rfl (.inl rfl) rfl) (pl_cons (p_var (i := 2) rfl (.inr (.inl rfl)) rfl) (pl_cons (p_var (i := 1) rfl (.inr (.inl rfl)) rfl) (pl_cons (p_var (i := 3) rfl (.inr (.inl rfl)) rfl) pl_nil)))) ?_))), (p_var (i := 0) rfl (.inl rfl) rfl), ?_⟩⟩
        · exact ⟨h, rs, hs, L, rfl, by rw [q], h1, h4⟩
        · show strsD ((hs.take (i + 1)).filter (hasBody rs hs L)) = strsD ((hs.take i).filter (hasBody rs hs L)) ++ [D.str h]
          rw [take_get hh, List.filter_append, List.filter_cons_of_pos q]
          unfold strsD
          rw [List.map_append]
          rfl
      | false =>
        refine ⟨_, (g_name (i := 0) (show List.Nodup (α := Str) ["head", "heads", "rules", "live"] by decide +kernel) rfl (.inl rfl)), (Sub.set rfl), .inr ⟨(ts_one (t_val (p_call (d := .bl false) o_has_live_body (hr.mono (by decide)) rfl (pl_cons (p_var (i := 0) rfl (.inl rfl) rfl) (pl_cons (p_var (i := 2) rfl (.inr (.inl rfl)) rfl) (pl_cons (p_var (i := 1) rfl (.inr (.inl rfl)) rfl) (pl_cons (p_var (i := 3) rfl (.inr (.inl rfl)) rfl) pl_nil)))) ?_))), ?_⟩⟩
        · exact ⟨h, rs, hs, L, rfl, by rw [q], h1, h4⟩
        · show strsD ((hs.take (i + 1)).filter (hasBody rs hs L)) = strsD ((hs.take i).filter (hasBody rs hs L))
          rw [take_get hh, List.filter_append, List.filter_cons_of_neg (by simp [q])]
          simp
    rw [strsD_len, List.take_length]
    refine w_set (i := 3) sc_live_of.nd rfl (.inl rfl) (p_cmp (c_gt (p_lenL z.len rfl (p_var (i := 4) rfl (.inl rfl) rfl)) (p_lenL z.len rfl (p_var (i := 2) rfl (.inr (.inl rfl)) rfl)))) ?_
    refine w_set (i := 2) sc_live_of.nd rfl (.inr rfl) (p_var (i := 4) rfl (.inl rfl) rfl) ?_
    rw [strsD_len, strsD_len]
    show W3 _ B [] [some (.lst (strsD hs)), some (.lst (rulesD rs)), some (.lst (strsD (stepL hs rs L))), some (.bl (decide (((L.length : Nat) : Int) < ((stepL hs rs L).length : Nat)))), some (.lst (strsD (stepL hs rs L)))] Ω _
    have le := stage_le st
    have lh : (stepL hs rs L).length ≤ hs.length := List.length_filter_le _ _
    by_cases g : L.length < (stepL hs rs L).length
    · rw [decide_eq_true (by omega)]
      refine w_nil ⟨⟨_, true, _, rfl, .inl ⟨rfl, stage_step st⟩⟩, ?_⟩
      show (if true = true then hs.length + 1 - (strsD (stepL hs rs L)).length else 0) < if true = true then hs.length + 1 - (strsD L).length else 0
      rw [if_pos rfl, if_pos rfl, strsD_len, strsD_len]
      omega
    · rw [decide_eq_false (by omega)]
      refine w_nil ⟨⟨_, false, _, rfl, .inr ⟨rfl, stage_end st (by omega) h3⟩⟩, ?_⟩
      show (if false = true then hs.length + 1 - (strsD (stepL hs rs L)).length else 0) < if true = true then hs.length + 1 - (strsD L).length else 0
      rw [if_neg Bool.false_ne_true, if_pos rfl, strsD_len]
      omega
  · obtain ⟨_, rfl⟩ : b = false ∧ L = liveL hs rs := hb.resolve_left fun h => by rw [h.1] at hk; cases hk
    refine w_ret (p_var (i := 2) rfl (.inr (.inl rfl)) rfl) ?_
    rfl
end
end Law
set_option Elab.async false
set_option linter.all false
set_option maxRecDepth 100000
set_option maxHeartbeats 4000000
namespace Law
open PySem L2 L3
section
variable {P : Program} {w : World} {K : PySem.W.Frag} {mg : Str → Option Value} {base : Heap} {C_Grammar C_Sums : Addr}
theorem ok_Grammar (z : Zs mg) (c_Grammar : ClsG K C_Grammar) (d : InitK K mg "Grammar" C_Grammar "Grammar.__init__" s_Grammar___init__ ["self", "start", "rules"]) (o_check_rules : OkF P w K mg base CX0 6 "check_rules" ["rules"] (spP K 1 C_rules)) (o_heads_of : OkF P w K mg base CX0 2 "heads_of" ["rules"] (spP K 1 C_heads)) (o_check_start : OkF P w K mg base CX0 2 "check_start" ["start", "heads"] (spP K 2 C_start)) (o_check_sums : OkF P w K mg base CX0 34 "check_sums" ["heads", "rules"] (spP K 2 C_sums)) (o_live_of : OkF P w K mg base CX0 4 "live_of" ["heads", "rules"] (spP K 2 C_liveOf)) : OkI P w K mg base CX0 36 "Grammar" C_Grammar ["self", "start", "rules"] (spI K 3 C_Grammar C_makes) := by
  refine oi_init d sc_Grammar___init__ rfl fun f cdv A outer s H E hr a ds r hC B hB => ?_
  obtain ⟨st, rs, rfl, rfl, gv⟩ := hC
  have l2 := gv.l2
  have fl := firsts_len (rs := rs)
  refine w_expr (p_call (d := .non) o_check_rules (hr.mono (by decide)) rfl (pl_cons (p_var (i := 2) rfl (.inl rfl) rfl) pl_nil) ?_) ?_
  · exact ⟨rs, rfl, rfl, gv.l1, gv.l2, gv.ok, gv.nd⟩
  refine w_setF (a := a) (p_var (i := 0) rfl (.inl rfl) rfl) c_Grammar.c c_Grammar.n_first (v_pure (p_var (i := 1) rfl (.inl rfl) rfl) ⟨[], [], [], List.Perm.refl _, by simp, by decide, ?_⟩)
  refine w_setF (a := a) (p_var (i := 0) rfl (.inl rfl) rfl) c_Grammar.c c_Grammar.n_kept_rules (v_pure (PF3.p (pf_list z.list rfl (p_var (i := 2) rfl (.inl rfl) rfl) (.inl rfl))) ⟨_, _, [], List.Perm.refl _, by decide, by decide, ?_⟩)
  refine w_setF (a := a) (p_var (i := 0) rfl (.inl rfl) rfl) c_Grammar.c c_Grammar.n_kept_heads (v_pure (p_call (d := .lst (strsD (firsts rs))) o_heads_of (hr.mono (by decide)) rfl (pl_cons (p_var (i := 2) rfl (.inl rfl) rfl) pl_nil) ⟨rs, rfl, rfl, gv.l2⟩) ⟨_, _, [], List.Perm.refl _, by decide, by decide, ?_⟩)
  refine w_exprV (v_lend (L := true) (d := .non) (Γ' := [some (.obj C_Grammar ["first", "kept_rules", "kept_heads"] [.str st, .lst (rulesD rs), .lst (strsD (firsts rs))]), some (.str st), some (.lst (rulesD rs))]) (p_call o_check_start (hr.mono (by decide)) rfl (pl_cons (p_var (i := 1) rfl (.inl rfl) rfl) (pl_cons (p_fld (p_var (i := 0) rfl (.inl rfl) rfl) c_Grammar.c c_Grammar.n_kept_heads rfl) pl_nil)) ⟨st, firsts rs, rfl, rfl, gv.st⟩) (lent_set (i := 0) lent_refl rfl (List.mem_singleton.mpr rfl) lends_ins) (hard_cons hard_ins hard_nil) rfl ?_)
  refine w_exprV (v_lend (L := true) (d := .non) (Γ' := [some (.obj C_Grammar ["first", "kept_rules", "kept_heads"] [.str st, .lst (rulesD rs), .lst (strsD (firsts rs))]), some (.str st), some (.lst (rulesD rs))]) (p_call o_check_sums (hr.mono (by decide)) rfl (pl_cons (p_fld (p_var (i := 0) rfl (.inl rfl) rfl) c_Grammar.c c_Grammar.n_kept_heads rfl) (pl_cons (p_var (i := 2) rfl (.inl rfl) rfl) pl_nil)) ⟨firsts rs, rs, rfl, rfl, gv.l2, gv.one, fun r hr' => ⟨Rat.le_of_lt (gv.ok r hr').2.2.2.2, gv.sz r hr'⟩⟩) (lent_set (i := 0) lent_refl rfl (List.mem_singleton.mpr rfl) lends_ins) (hard_cons hard_ins hard_nil) rfl ?_)
  refine w_setF (a := a) (p_var (i := 0) rfl (.inl rfl) rfl) c_Grammar.c c_Grammar.n_kept_live (v_lend (L := true) (d := .lst (strsD (liveL (firsts rs) rs))) (Γ' := [some (.obj C_Grammar ["first", "kept_rules", "kept_heads"] [.str st, .lst (rulesD rs), .lst (strsD (firsts rs))]), some (.str st), some (.lst (rulesD rs))]) (p_call o_live_of (hr.mono (by decide)) rfl (pl_cons (p_fld (p_var (i := 0) rfl (.inl rfl) rfl) c_Grammar.c c_Grammar.n_kept_heads rfl) (pl_cons (p_var (i := 2) rfl (.inl rfl) rfl) pl_nil)) ⟨firsts rs, rs, rfl, rfl, gv.l2, by omega, fun r hr' => mem_firsts.mpr (List.mem_map.mpr ⟨r, hr', rfl⟩), fun r hr' => (gv.ok r hr').2.2.1⟩) (lent_set (i := 0) lent_refl rfl (List.mem_singleton.mpr rfl) lends_ins) (hard_cons hard_ins hard_nil) solid_lstrs ⟨_, _, [], List.Perm.refl _, by decide, by decide, ?_⟩)
  exact w_nil rfl
theorem ok_Grammar_start (c_Grammar : ClsG K C_Grammar) (d : MethK K C_Grammar "start" "Grammar.start" s_Grammar_start ["self"])  : OkM P w K mg base CX0 2 C_Grammar "start" ["self"] (spP K 1 (C_gStart C_Grammar)) := by
  refine om_pure d sc_Grammar_start rfl fun f cdv A outer s H E hr ds r hC B hB => ?_
  obtain ⟨st, rs, rfl, rfl⟩ := hC
  refine w_ret (p_fld (p_var (i := 0) rfl (.inl rfl) rfl) c_Grammar.c c_Grammar.n_first rfl) ?_
  rfl
theorem ok_Grammar_rules (z : Zs mg) (c_Grammar : ClsG K C_Grammar) (d : MethK K C_Grammar "rules" "Grammar.rules" s_Grammar_rules ["self"])  : OkM P w K mg base CX0 2 C_Grammar "rules" ["self"] (spF K 1 (C_gRules C_Grammar)) := by
  refine om_fresh d sc_Grammar_rules rfl fun f cdv A outer s H E hr ds gs hC B hB => ?_
  obtain ⟨st, rs, rfl, rfl⟩ := hC
  exact w_retV (v_fresh (pf_list z.list rfl (p_fld (p_var (i := 0) rfl (.inl rfl) rfl) c_Grammar.c c_Grammar.n_kept_rules rfl) (.inl rfl)) fun p => ⟨p, rfl, rfl⟩)
theorem ok_Grammar_heads (z : Zs mg) (c_Grammar : ClsG K C_Grammar) (d : MethK K C_Grammar "heads" "Grammar.heads" s_Grammar_heads ["self"])  : OkM P w K mg base CX0 2 C_Grammar "heads" ["self"] (spF K 1 (C_gHeads C_Grammar)) := by
  refine om_fresh d sc_Grammar_heads rfl fun f cdv A outer s H E hr ds gs hC B hB => ?_
  obtain ⟨st, rs, rfl, rfl⟩ := hC
  exact w_retV (v_fresh (pf_list z.list rfl (p_fld (p_var (i := 0) rfl (.inl rfl) rfl) c_Grammar.c c_Grammar.n_kept_heads rfl) (.inl rfl)) fun p => ⟨p, rfl, rfl⟩)
theorem ok_Grammar_live (z : Zs mg) (c_Grammar : ClsG K C_Grammar) (d : MethK K C_Grammar "live" "Grammar.live" s_Grammar_live ["self"])  : OkM P w K mg base CX0 2 C_Grammar "live" ["self"] (spF K 1 (C_gLive C_Grammar)) := by
  refine om_fresh d sc_Grammar_live rfl fun f cdv A outer s H E hr ds gs hC B hB => ?_
  obtain ⟨st, rs, rfl, rfl⟩ := hC
  exact w_retV (v_fresh (pf_list z.list rfl (p_fld (p_var (i := 0) rfl (.inl rfl) rfl) c_Grammar.c c_Grammar.n_kept_live rfl) (.inl rfl)) fun p => ⟨p, rfl, rfl⟩)
end
end Law
set_option Elab.async false
set_option linter.all false
set_option maxRecDepth 100000
set_option maxHeartbeats 4000000
namespace Law
open PySem L2 L3
section
variable {P : Program} {w : World} {K : PySem.W.Frag} {mg : Str → Option Value} {base : Heap} {C_Grammar C_Sums : Addr}
theorem ok_sum_of_products (ht : P.given.tree = none) (g_NOUGHT : GlobD K mg "NOUGHT" (sh 0)) (d : DefK K mg "sum_of_products" s_sum_of_products ["pairs"]) (o_common_divisor : OkF P w K mg base CX0 2 "common_divisor" ["one", "other"] (spP K 2 C_gcd)) (o_share : OkF P w K mg base CX0 33 "share" ["top", "bottom"] (spP K 2 C_share)) : OkF P w K mg base CX0 34 "sum_of_products" ["pairs"] (spP K 1 C_sop) := by
  refine ok_pure d sc_sum_of_products rfl fun f cdv A outer s H E hr ds r hC B hB => ?_
  obtain ⟨ps, s', rfl, rfl, hp, hb, hs⟩ := hC
  have py : Pyl (cx0 P w K mg base ["pairs", "top", "bottom", "one", "other", "below", "divisor"] "sum_of_products" s_sum_of_products f cdv A outer s H E) := (pyl_cx ht rfl rfl hr (by decide)).nox
  refine w_set (i := 1) sc_sum_of_products.nd rfl (.inl rfl) p_int ?_
  refine w_set (i := 2) sc_sum_of_products.nd rfl (.inl rfl) p_int ?_
  refine w_for PassesOwn.never rfl (i_list (p_var (i := 0) rfl (.inl rfl) rfl)) (fun i Γ _ => ∃ (t b : Int) (x3 x4 x5 x6 : Option D), SopOk s' (ps.take i) i t b ∧ Γ = [some (.lst (ps.map shPair)), some (.int t), some (.int b), x3, x4, x5, x6]) ⟨0, 1, _, _, _, _, sop_0, rfl⟩ ?_ ?_
  · rintro i d Γ Ω hd ⟨t, b, x3, x4, x5, x6, so, rfl⟩
    obtain ⟨p, hp', rfl⟩ := map_get hd
    have hi : i < ps.length := (List.getElem?_eq_some_iff.mp hp').1
    have hq := hp p (List.mem_of_getElem? hp')
    have hB : i * (2 * s' + 1) + 1 ≤ big := by
      refine Nat.le_trans ?_ hb
      unfold sopB
      have : i * (2 * s' + 1) ≤ ps.length * (4 * s' + 2) := Nat.mul_le_mul (Nat.le_of_lt hi) (by omega)
      omega
    have hB' : big = 67108864 := rfl
    have he : 0 < (p.1.den : Int) * (p.2.den : Int) := Int.mul_pos (My.den_pos' _) (My.den_pos' _)
    have g0 : 0 < My.G b ((p.1.den : Int) * (p.2.den : Int)) := My.G_pos he
    have eb : ((p.1.den : Int) * (p.2.den : Int)).natAbs < 2 ^ (s' + s') := abs_mul_lt (den_abs hq.1.2) (den_abs hq.2.2)
    have c1 := dv_le (a := b) (g := My.G b ((p.1.den : Int) * (p.2.den : Int))) (Int.le_of_lt so.b0) g0
    have c2 := dv_le (a := (p.1.den : Int) * (p.2.den : Int)) (g := My.G b ((p.1.den : Int) * (p.2.den : Int))) (Int.le_of_lt he) g0
    have b1 := dv_fit c1 so.bb
    have b2 := dv_fit c2 eb
    have bn : (p.1.num * p.2.num).natAbs < 2 ^ (s' + s') := abs_mul_lt hq.1.2.1 hq.2.2.1
    refine ⟨_, (g_tup rfl (gl_cons (g_name (i := 3) sc_sum_of_products.nd rfl (.inl rfl)) (gl_cons (g_name (i := 4) sc_sum_of_products.nd rfl (.inl rfl)) gl_nil))), ?_⟩
    refine w_if (PW3.t (tw_and (t_cmp (c_ne hr.units (p_var (i := 3) rfl (.inl rfl) rfl) (p_globD g_NOUGHT rfl) kin_sh dep_sh)) fun _ => (tw_and1 (t_cmp (c_ne hr.units (p_var (i := 4) rfl (.inl rfl) rfl) (p_globD g_NOUGHT rfl) kin_sh dep_sh))))) ?_ ?_
    · intro hk
      refine w_set (i := 5) sc_sum_of_products.nd rfl (.inl rfl) (p_mul (p_ixT (p_var (i := 3) rfl (.inl rfl) rfl) p_int rfl) (p_ixT (p_var (i := 4) rfl (.inl rfl) rfl) p_int rfl) ?_) ?_
      · exact mul_fit (den_abs hq.1.2) (den_abs hq.2.2) (by omega)
      refine w_set (i := 6) sc_sum_of_products.nd rfl (.inl rfl) (p_call (d := .int (My.G b ((p.1.den : Int) * (p.2.den : Int)))) o_common_divisor (hr.mono (by decide)) rfl (pl_cons (p_var (i := 2) rfl (.inl rfl) rfl) (pl_cons (p_var (i := 5) rfl (.inl rfl) rfl) pl_nil)) ?_) ?_
      · exact ⟨_, _, rfl, rfl, Int.le_of_lt so.b0, Int.le_of_lt he⟩
      refine w_set (i := 1) sc_sum_of_products.nd rfl (.inl rfl) (p_add (p_mul (p_var (i := 1) rfl (.inl rfl) rfl) (p_fdivP py (p_var (i := 5) rfl (.inl rfl) rfl) (p_var (i := 6) rfl (.inl rfl) rfl) ?_) ?_) (p_mul (p_mul (p_ixT (p_var (i := 3) rfl (.inl rfl) rfl) p_int rfl) (p_ixT (p_var (i := 4) rfl (.inl rfl) rfl) p_int rfl) ?_) (p_fdivP py (p_var (i := 2) rfl (.inl rfl) rfl) (p_var (i := 6) rfl (.inl rfl) rfl) ?_) ?_)) ?_
      · exact g0
      · exact mul_fit so.tb b2 (by omega)
      · exact mul_fit hq.1.2.1 hq.2.2.1 (by omega)
      · exact g0
      · exact mul_fit bn b1 (by omega)
      refine w_set (i := 2) sc_sum_of_products.nd rfl (.inl rfl) (p_mul (p_fdivP py (p_var (i := 2) rfl (.inl rfl) rfl) (p_var (i := 6) rfl (.inl rfl) rfl) ?_) (p_var (i := 5) rfl (.inl rfl) rfl) ?_) ?_
      · exact g0
      · exact mul_fit b1 eb (by omega)
      refine w_nil (w_nil ⟨_, _, _, _, _, _, ?_, rfl⟩)
      rw [take_get hp']
      exact so.more hq.1 hq.2
    · intro hk
      refine w_nil (w_nil ⟨t, b, _, _, _, _, ?_, rfl⟩)
      rw [take_get hp']
      refine so.skip ?_
      rw [beq_sh, beq_sh] at hk
      by_cases z : p.1 = 0
      · exact .inl z
      · refine .inr ?_
        simpa [z] using hk
  · rintro Γ Ω ⟨t, b, x3, x4, x5, x6, so, rfl⟩
    rw [List.length_map, List.take_length] at so
    refine w_ret (p_call (d := sh (sumP ps)) o_share (hr.mono (by decide)) rfl (pl_cons (p_var (i := 1) rfl (.inl rfl) rfl) (pl_cons (p_var (i := 2) rfl (.inl rfl) rfl) pl_nil)) ?_) ?_
    · exact ⟨t, b, rfl, by rw [so.e], so.t0, so.b0⟩
    rfl
theorem ok_is_step (z : Zs mg) (d : DefK K mg "is_step" s_is_step ["rule", "heads"])  : OkF P w K mg base CX0 2 "is_step" ["rule", "heads"] (spP K 2 C_isStp) := by
  refine ok_pure d sc_is_step rfl fun f cdv A outer s H E hr ds r hC B hB => ?_
  obtain ⟨r, L, rfl, rfl⟩ := hC
  by_cases h1 : r.2.1.length = 1
  · obtain ⟨x, hx⟩ : ∃ x, r.2.1 = [x] := List.length_eq_one_iff.mp h1
    have hx' : (r.2.1.map D.str) = [D.str x] := by rw [hx]; rfl
    refine w_ret (p_and (p_cmp (c_eqI (p_lenT z.len rfl (p_ixT (p_var (i := 0) rfl (.inl rfl) rfl) p_int rfl)) p_int)) fun _ => (p_one (p_cmp (c_in hr.units (p_ixT (d := .str x) (p_ixT (p_var (i := 0) rfl (.inl rfl) rfl) p_int rfl) p_int ?_) (p_var (i := 1) rfl (.inl rfl) rfl) (.inl rfl) ?_)))) ?_
    · show atI (r.2.1.map D.str) 0 = _
      rw [hx']; rfl
    · exact strs_kin
    show D.bl _ = D.bl _
    rw [in_strs]
    unfold isStp
    rw [hx]
    simp
  · have e : decide (((r.2.1.map D.str).length : Int) = 1) = false := decide_eq_false (by rw [List.length_map]; omega)
    refine w_ret (p_eq (d := .bl (isStp L r)) (p_and (k' := false) (p_cmp (c_eqI (p_lenT z.len rfl (p_ixT (p_var (i := 0) rfl (.inl rfl) rfl) p_int rfl)) p_int)) fun hk => by rw [e] at hk; cases hk) ?_) rfl
    show D.bl (_ && false) = D.bl (isStp L r)
    rw [Bool.and_false]
    unfold isStp
    split
    · rename_i x hx
      rw [hx] at h1
      exact absurd rfl h1
    · rfl
theorem ok_live_rules (c_Grammar : ClsG K C_Grammar) (d : DefK K mg "live_rules" s_live_rules ["grammar"]) (o_Grammar_heads : OkM P w K mg base CX0 2 C_Grammar "heads" ["self"] (spF K 1 (C_gHeads C_Grammar))) (o_Grammar_live : OkM P w K mg base CX0 2 C_Grammar "live" ["self"] (spF K 1 (C_gLive C_Grammar))) (o_Grammar_rules : OkM P w K mg base CX0 2 C_Grammar "rules" ["self"] (spF K 1 (C_gRules C_Grammar))) (o_is_live_body : OkF P w K mg base CX0 2 "is_live_body" ["body", "heads", "live"] (spP K 3 C_liveBody)) : OkF P w K mg base CX0 3 "live_rules" ["grammar"] (spP K 1 (C_liveR C_Grammar)) := by
  refine ok_pure d sc_live_rules rfl fun f cdv A outer s H E hr ds r hC B hB => ?_
  obtain ⟨st, rs, rfl, rfl, h1, h2⟩ := hC
  refine w_set (i := 1) sc_live_rules.nd rfl (.inr rfl) (PF3.p (pf_meth0 (ds := strsD (firsts rs)) o_Grammar_heads c_Grammar.c (hr.mono (by decide)) (p_var (i := 0) rfl (.inl rfl) rfl) nm_Grammar_heads ?_)) ?_
  · exact ⟨st, rs, rfl, rfl⟩
  refine w_set (i := 2) sc_live_rules.nd rfl (.inr rfl) (PF3.p (pf_meth0 (ds := strsD (liveL (firsts rs) rs)) o_Grammar_live c_Grammar.c (hr.mono (by decide)) (p_var (i := 0) rfl (.inl rfl) rfl) nm_Grammar_live ?_)) ?_
  · exact ⟨st, rs, rfl, rfl⟩
  refine w_ret (PF3.p (pf_comp (SX := defScope s_live_rules) (XN := ["grammar", "heads", "live"]) (N := ["rule", "heads", "live"]) (nt := 1) (caps := [1, 2]) (pre := (fun i => rulesD ((rs.take i).filter fun r => okBody (firsts rs) (liveL (firsts rs) rs) r.2.1))) ⟨rfl, by decide +kernel, by decide +kernel, by decide +kernel, rfl, by decide +kernel⟩ (i_list (PF3.p (pf_meth0 (ds := rulesD rs) o_Grammar_rules c_Grammar.c (hr.mono (by decide)) (p_var (i := 0) rfl (.inl rfl) rfl) nm_Grammar_rules ?_))) ?_ ?_ ?_)) ?_
  · exact ⟨st, rs, rfl, rfl⟩
  · intro i hi
    rw [rulesD_len, sizeLine_eq]
    have := List.length_filter_le (fun r : Rule => okBody (firsts rs) (liveL (firsts rs) rs) r.2.1) (rs.take i)
    rw [List.length_take] at this
    omega
  · rfl
  · intro c i d hd
    obtain ⟨r, hr', rfl⟩ := rulesD_get hd
    cases q : okBody (firsts rs) (liveL (firsts rs) rs) r.2.1 with
    | true =>
      refine ⟨_, (g_name (i := 0) (show List.Nodup (α := Str) ["rule", "heads", "live"] by decide +kernel) rfl (.inl rfl)), (Sub.set rfl), .inl ⟨ruleD r, (ts_one (t_val (p_call (d := .bl true) o_is_live_body (hr.mono (by decide)) rfl (pl_cons (p_ixT (p_var (i := 0) rfl (.inl rfl) rfl) p_int rfl) (pl_cons (p_var (i := 1) rfl (.inr (.inl rfl)) rfl) (pl_cons (p_var (i := 2) rfl (.inr (.inl rfl)) rfl) pl_nil))) ?_))), (p_var (i := 0) rfl (.inl rfl) rfl), ?_⟩⟩
      · exact ⟨r.2.1, _, _, rfl, by rw [q], h2 r (List.mem_of_getElem? hr')⟩
      · show rulesD ((rs.take (i + 1)).filter fun r => okBody (firsts rs) (liveL (firsts rs) rs) r.2.1) = _
        rw [take_get hr', List.filter_append, List.filter_cons_of_pos (p := fun r : Rule => okBody (firsts rs) (liveL (firsts rs) rs) r.2.1) q]
        unfold rulesD
        rw [List.map_append]
        rfl
    | false =>
      refine ⟨_, (g_name (i := 0) (show List.Nodup (α := Str) ["rule", "heads", "live"] by decide +kernel) rfl (.inl rfl)), (Sub.set rfl), .inr ⟨(ts_one (t_val (p_call (d := .bl false) o_is_live_body (hr.mono (by decide)) rfl (pl_cons (p_ixT (p_var (i := 0) rfl (.inl rfl) rfl) p_int rfl) (pl_cons (p_var (i := 1) rfl (.inr (.inl rfl)) rfl) (pl_cons (p_var (i := 2) rfl (.inr (.inl rfl)) rfl) pl_nil))) ?_))), ?_⟩⟩
      · exact ⟨r.2.1, _, _, rfl, by rw [q], h2 r (List.mem_of_getElem? hr')⟩
      · show rulesD ((rs.take (i + 1)).filter fun r => okBody (firsts rs) (liveL (firsts rs) rs) r.2.1) = _
        rw [take_get hr', List.filter_append, List.filter_cons_of_neg (p := fun r : Rule => okBody (firsts rs) (liveL (firsts rs) rs) r.2.1) (fun z => by rw [q] at z; cases z)]
        simp
  rw [rulesD_len, List.take_length]
  rfl
theorem ok_stretches (z : Zs mg) (d : DefK K mg "stretches" s_stretches ["row"])  : OkF P w K mg base CX0 2 "stretches" ["row"] (spP K 1 C_strs) := by
  refine ok_pure d sc_stretches rfl fun f cdv A outer s H E hr ds r hC B hB => ?_
  obtain ⟨row, rfl, rfl, h1⟩ := hC
  refine w_own (i := 1) sc_stretches.nd rfl (.inl rfl) (pf_lst pl_nil) fun l => ?_
  refine w_for PassesOwn.never rfl (i_rangeM (n := row.length) (lo := 1) z.range rfl p_int (p_add (p_lenT z.len rfl (p_var (i := 0) rfl (.inl rfl) rfl)) p_int) ?_ ?_ ?_) (fun i Γ Ω => ∃ x, Γ = [some (bodyD row), some (.raw (.ref l)), x] ∧ Ω = [(l, oLst K ((strTo row.length i).map pairD))]) ?_ ?_ ?_
  · rfl
  · rw [List.length_map]; omega
  · rw [List.length_map]; omega
  · exact ⟨_, rfl, rfl⟩
  · rintro i d Γ Ω hd ⟨x, rfl, rfl⟩
    obtain ⟨hi, rfl⟩ := nums_lt hd
    refine ⟨_, (g_name (i := 2) sc_stretches.nd rfl (.inr rfl)), ?_⟩
    refine w_extend (i := 1) rfl (.inl rfl) rfl (pf_comp (SX := defScope s_stretches) (XN := ["row", "found", "length"]) (N := ["i", "length"]) (nt := 1) (caps := [2]) (pre := (fun k => ((List.range k).map fun j => (j, j + i + 1)).map pairD)) ⟨rfl, by decide +kernel, by decide +kernel, by decide +kernel, rfl, by decide +kernel⟩ (i_rangeN (n := row.length - i) z.range rfl (p_add (p_sub (p_lenT z.len rfl (p_var (i := 0) rfl (.inl rfl) rfl)) (p_var (i := 2) rfl (.inr (.inl rfl)) rfl)) p_int) ?_ ?_) ?_ ?_ ?_) ?_ ?_
    · rw [List.length_map]; omega
    · omega
    · intro k hk
      rw [List.length_map, List.length_map, List.length_range, sizeLine_eq]
      rw [nums_len] at hk
      omega
    · rfl
    · intro c k d hd
      obtain ⟨hk, rfl⟩ := nums_lt hd
      refine ⟨_, (g_name (i := 0) (show List.Nodup (α := Str) ["i", "length"] by decide +kernel) rfl (.inl rfl)), (Sub.set rfl), .inl ⟨pairD (k, k + i + 1), ts_nil, (p_eq (p_tup (pl_cons (p_var (i := 0) rfl (.inl rfl) rfl) (pl_cons (p_add (p_var (i := 0) rfl (.inl rfl) rfl) (p_var (i := 1) rfl (.inr (.inl rfl)) rfl)) pl_nil))) ?_), ?_⟩⟩
      · have e : ((0 + k : Nat) : Int) + ((1 + i : Nat) : Int) = ((k + i + 1 : Nat) : Int) := by omega
        show D.tup [.int ((0 + k : Nat) : Int), .int (((0 + k : Nat) : Int) + ((1 + i : Nat) : Int))] = D.tup [.int (k : Int), .int ((k + i + 1 : Nat) : Int)]
        rw [e, Nat.zero_add]
      · show ((List.range (k + 1)).map fun j => (j, j + i + 1)).map pairD = _
        rw [List.range_succ, List.map_append, List.map_append]
        rfl
    · rw [nums_len, List.length_map, List.length_map, List.length_map, List.length_range, sizeLine_eq]
      have := strTo_len (n := row.length) (i := i)
      have : row.length * i ≤ 10 * 10 := Nat.mul_le_mul h1 (by omega)
      omega
    · refine w_nil ⟨_, rfl, ?_⟩
      rw [strTo_succ, List.map_append, nums_len]
      rfl
  · rintro Γ Ω ⟨x, rfl, rfl⟩
    rw [nums_len]
    refine w_freeze (i := 1) rfl ?_
    refine w_ret (p_var (i := 1) rfl (.inl rfl) rfl) ?_
    rfl
theorem ok_chains_of (z : Zs mg) (g_NOUGHT : GlobD K mg "NOUGHT" (sh 0)) (g_ONE : GlobD K mg "ONE" (sh 1)) (d : DefK K mg "chains_of" s_chains_of ["heads", "steps"]) (o_solved_rows : OkF P w K mg base CX0 37 "solved_rows" ["ways", "ends"] (spP K 2 C_rows)) : OkF P w K mg base CX0 38 "chains_of" ["heads", "steps"] (spP K 2 C_chains) := by
  refine ok_pure d sc_chains_of rfl fun f cdv A outer s H E hr ds r hC B hB => ?_
  obtain ⟨L, ss, s', rfl, rfl, nd, hL, hss, hb1, hkn, hsz, hs1, hsk, hpv⟩ := hC
  refine w_setV (i := 2) sc_chains_of.nd rfl (.inr rfl) (v_newT fun l => ?_)
  refine w_for PassesOwn.never rfl (i_list (p_var (i := 1) rfl (.inl rfl) rfl)) (fun i Γ Ω => ∃ x3, Γ = [some (.lst (strsD L)), some (.lst (rulesD ss)), some (.raw (.ref l)), x3, none, none, none, none, none] ∧ Ω = [(l, oDt K (((ss.take i).map fun r => (r.1, b0 r)).map kW) (((ss.take i).map (·.2.2)).map sh))]) ⟨_, rfl, rfl⟩ ?_ ?_
  · rintro i d Γ Ω hd ⟨x3, rfl, rfl⟩
    obtain ⟨r, hr', rfl⟩ := rulesD_get hd
    obtain ⟨y, hy⟩ := hb1 r (List.mem_of_getElem? hr')
    have hn := nodup_take (f := fun r : Rule => (r.1, b0 r)) hkn hr'
    have ey : b0 r = y := by unfold b0; rw [hy]; rfl
    have hi : i < ss.length := (List.getElem?_eq_some_iff.mp hr').1
    refine ⟨_, (g_name (i := 3) sc_chains_of.nd rfl (.inl rfl)), ?_⟩
    refine w_setT (k := kW (r.1, b0 r)) hr.units (v_pure (p_var (i := 2) rfl (.inr (.inl rfl)) rfl) ⟨rfl, rfl⟩) (pl_cons (p_ixT (p_var (i := 3) rfl (.inl rfl) rfl) p_int rfl) (pl_cons (p_ixT (d := .str (b0 r)) (p_ixT (p_var (i := 3) rfl (.inl rfl) rfl) p_int rfl) p_int ?_) pl_nil)) (p_ixT (p_var (i := 3) rfl (.inl rfl) rfl) p_int rfl) (List.Perm.refl _) ?_ ?_
    · show atI (r.2.1.map D.str) 0 = _
      rw [ey, hy]; rfl
    · rw [List.length_map, List.length_map, List.length_take, sizeLine_eq]; omega
    · refine w_nil ⟨_, rfl, ?_⟩
      have e1 : pK (((ss.take i).map fun r => (r.1, b0 r)).map kW) (kW (r.1, b0 r)) = ((ss.take (i + 1)).map fun r => (r.1, b0 r)).map kW := by
        rw [pK_map kW_inj, take_get hr', List.map_append]
        unfold pK
        rw [if_neg hn]
        rfl
      have e2 : pA (((ss.take i).map fun r => (r.1, b0 r)).map kW) (((ss.take i).map (·.2.2)).map sh) (kW (r.1, b0 r)) (sh r.2.2) = ((ss.take (i + 1)).map (·.2.2)).map sh := by
        rw [pA_map kW_inj, take_get hr', List.map_append]
        unfold pA
        rw [if_neg hn]
        rfl
      rw [e1, e2]
      rfl
  · rintro Γ Ω ⟨x3, rfl, rfl⟩
    rw [rulesD_len, List.take_length]
    refine w_frzT (i := 2) rfl ?_
    refine w_own (i := 4) sc_chains_of.nd rfl (.inl rfl) (pf_lst pl_nil) fun l4 => ?_
    refine w_own (i := 5) sc_chains_of.nd rfl (.inl rfl) (pf_lst pl_nil) fun l5 => ?_
    refine w_for PassesOwn.never rfl (i_list (p_var (i := 0) rfl (.inl rfl) rfl)) (fun i Γ Ω => ∃ x6, Γ = [some (.lst (strsD L)), some (.lst (rulesD ss)), some (.dt ((ss.map fun r => (r.1, b0 r)).map kW) ((ss.map (·.2.2)).map sh)), x3, some (.raw (.ref l4)), some (.raw (.ref l5)), x6, none, none] ∧ Ω = [(l5, oLst K (tb i fun r => shR L.length (idM L r))), (l4, oLst K (tb i fun r => shR L.length (wM2 L ss r)))]) ⟨_, rfl, rfl⟩ ?_ ?_
    · rintro i d Γ Ω hd ⟨x6, rfl, rfl⟩
      obtain ⟨h, hh, rfl⟩ := strsD_get hd
      have hi : i < L.length := (List.getElem?_eq_some_iff.mp hh).1
      have eh : L.getD i "" = h := by rw [List.getD_eq_getElem?_getD, hh]; rfl
      refine ⟨_, (g_name (i := 6) sc_chains_of.nd rfl (.inr rfl)), ?_⟩
      refine w_perm (List.Perm.swap ..) ?_
      refine w_append (i := 4) rfl (.inl rfl) rfl (PF3.p (pf_comp (SX := defScope s_chains_of) (XN := ["heads", "steps", "straight", "rule", "ways", "ends", "head", "chains", "found"]) (N := ["other", "straight", "head"]) (nt := 1) (caps := [2, 6]) (pre := (fun k => tb k fun j => sh (wM2 L ss i j))) ⟨rfl, by decide +kernel, by decide +kernel, by decide +kernel, rfl, by decide +kernel⟩ (i_list (p_var (i := 0) rfl (.inl rfl) rfl)) ?_ ?_ ?_)) ?_ ?_
      · intro k hk; rw [strsD_len] at hk; rw [tb_len, sizeLine_eq]; omega
      · rfl
      · intro c k d hd
        obtain ⟨o, ho, rfl⟩ := strsD_get hd
        refine ⟨_, (g_name (i := 0) (show List.Nodup (α := Str) ["other", "straight", "head"] by decide +kernel) rfl (.inl rfl)), (Sub.set rfl), .inl ⟨sh (wM2 L ss i k), ts_nil, (p_eq (p_getT (k := kW (h, o)) hr.units (p_var (i := 1) rfl (.inr (.inl rfl)) rfl) (pl_cons (p_var (i := 2) rfl (.inr (.inl rfl)) rfl) (pl_cons (p_var (i := 0) rfl (.inl rfl) rfl) pl_nil)) (p_globD g_NOUGHT rfl)) ?_), ?_⟩⟩
        · unfold wM2
          rw [eh, show L.getD k "" = o by rw [List.getD_eq_getElem?_getD, ho]; rfl, vA_map kW_inj]
          unfold wayS
          cases vA (ss.map fun r => (r.1, b0 r)) (ss.map (·.2.2)) (h, o) <;> rfl
        · exact tb_succ
      · rw [tb_len, sizeLine_eq]; omega
      rw [strsD_len]
      refine w_perm (List.Perm.swap ..) ?_
      refine w_append (i := 5) rfl (.inl rfl) rfl (PF3.p (pf_comp (SX := defScope s_chains_of) (XN := ["heads", "steps", "straight", "rule", "ways", "ends", "head", "chains", "found"]) (N := ["other", "head"]) (nt := 1) (caps := [6]) (pre := (fun k => tb k fun j => sh (idM L i j))) ⟨rfl, by decide +kernel, by decide +kernel, by decide +kernel, rfl, by decide +kernel⟩ (i_list (p_var (i := 0) rfl (.inl rfl) rfl)) ?_ ?_ ?_)) ?_ ?_
      · intro k hk; rw [strsD_len] at hk; rw [tb_len, sizeLine_eq]; omega
      · rfl
      · intro c k d hd
        obtain ⟨o, ho, rfl⟩ := strsD_get hd
        refine ⟨_, (g_name (i := 0) (show List.Nodup (α := Str) ["other", "head"] by decide +kernel) rfl (.inl rfl)), (Sub.set rfl), .inl ⟨sh (idM L i k), ts_nil, (p_ite (d := sh (idM L i k)) (t_cmp (c_eqS (p_var (i := 1) rfl (.inr (.inl rfl)) rfl) (p_var (i := 0) rfl (.inl rfl) rfl))) (fun hc => (p_eq (p_globD g_ONE rfl) ?_)) (fun hc => (p_eq (p_globD g_NOUGHT rfl) ?_))), ?_⟩⟩
        · have hc := of_decide_eq_true hc
          unfold idM
          rw [eh, show L.getD k "" = o by rw [List.getD_eq_getElem?_getD, ho]; rfl, if_pos hc]
        · have hc := of_decide_eq_false hc
          unfold idM
          rw [eh, show L.getD k "" = o by rw [List.getD_eq_getElem?_getD, ho]; rfl, if_neg hc]
        · exact tb_succ
      · rw [tb_len, sizeLine_eq]; omega
      rw [strsD_len]
      refine w_nil ⟨_, rfl, ?_⟩
      rw [tb_succ, tb_succ]
      rfl
    · rintro Γ Ω ⟨x6, rfl, rfl⟩
      rw [strsD_len]
      refine w_freeze (i := 5) rfl ?_
      refine w_freeze (i := 4) rfl ?_
      refine w_setV (i := 7) sc_chains_of.nd rfl (.inl rfl) (v_newK fun lc => ?_)
      have gI : Good L.length L.length s' (idM L) := fun i j _ _ => by
        unfold idM
        split
        · exact ⟨by decide, sz_1.mono hs1⟩
        · exact ⟨by decide, sz_0.mono hs1⟩
      have gW : Good L.length L.length s' (wM2 L ss) := fun i j _ _ => wayS_ok hsz hs1
      refine w_for PassesOwn.never rfl (i_zip z.zip rfl (p_var (i := 0) rfl (.inl rfl) rfl) (p_call (d := shM L.length L.length (chF L ss)) o_solved_rows (hr.mono (by decide)) rfl (pl_cons (p_var (i := 4) rfl (.inl rfl) rfl) (pl_cons (p_var (i := 5) rfl (.inl rfl) rfl) pl_nil)) ?_)) (fun i Γ Ω => ∃ x6 x8, Γ = [some (.lst (strsD L)), some (.lst (rulesD ss)), some (.dt ((ss.map fun r => (r.1, b0 r)).map kW) ((ss.map (·.2.2)).map sh)), x3, some (shM L.length L.length (wM2 L ss)), some (shM L.length L.length (idM L)), x6, some (.raw (.ref lc)), x8] ∧ Ω = [(lc, oDk K ((L.take i).map inrK) (tb i fun r => .dk (L.map inrK) (tb L.length fun j => sh (chF L ss r j))))]) ⟨_, _, rfl, rfl⟩ ?_ ?_
      · exact ⟨L.length, L.length, s', wM2 L ss, idM L, rfl, rfl, ⟨by omega, by omega, gW, gI, hsk⟩, hpv⟩
      · rintro i d Γ Ω hd ⟨x6, x8, rfl, rfl⟩
        obtain ⟨h, hi, hh, rfl⟩ := zipC_get hd
        refine ⟨_, (g_tup rfl (gl_cons (g_name (i := 6) sc_chains_of.nd rfl (.inr rfl)) (gl_cons (g_name (i := 8) sc_chains_of.nd rfl (.inl rfl)) gl_nil))), ?_⟩
        refine w_setK (k := inrK h) hr.units (p_var (i := 7) rfl (.inl rfl) rfl) (p_var (i := 6) rfl (.inr (.inl rfl)) rfl) (v_pure (p_dictZip rfl z.dict rfl z.zip rfl (p_eq (p_var (i := 0) rfl (.inl rfl) rfl) (congrArg D.lst strs_keys)) (p_var (i := 8) rfl (.inl rfl) rfl) (nodup_keys nd) ?_ ?_) ⟨_, _, [], List.Perm.refl _, ?_, ?_⟩)
        · rw [List.length_map, tb_len]
        · rw [List.length_map, sizeLine_eq]; omega
        · rw [List.length_map, List.length_take, sizeLine_eq]; omega
        · refine w_nil ⟨_, _, rfl, ?_⟩
          have hn : inrK h ∉ (L.take i).map inrK := fun z => by
            have := nodup_take (f := fun x : Str => x) (by simpa using nd) hh
            exact this (by simpa using (mem_mapf inrK_inj).mp z)
          have e1 : pK ((L.take i).map inrK) (inrK h) = (L.take (i + 1)).map inrK := by
            unfold pK
            rw [if_neg hn, take_get hh, List.map_append]
            rfl
          have e2 : ∀ v : D, pA ((L.take i).map inrK) (tb i fun r => D.dk (L.map inrK) (tb L.length fun j => sh (chF L ss r j))) (inrK h) v = (tb i fun r => D.dk (L.map inrK) (tb L.length fun j => sh (chF L ss r j))) ++ [v] := fun v => by
            unfold pA
            rw [if_neg hn]
          rw [e1, e2, tb_succ]
          rfl
      · rintro Γ Ω ⟨x6, x8, rfl, rfl⟩
        rw [zipC_len, List.take_length]
        refine w_frzK (i := 7) rfl ?_
        refine w_ret (p_var (i := 7) rfl (.inl rfl) rfl) ?_
        rfl
end
end Law
set_option Elab.async false
set_option linter.all false
set_option maxRecDepth 100000
set_option maxHeartbeats 4000000
namespace Law
open PySem L2 L3
section
variable {P : Program} {w : World} {K : PySem.W.Frag} {mg : Str → Option Value} {base : Heap} {C_Grammar C_Sums : Addr}
theorem ok_Sums_within (c_Sums : ClsS K C_Sums) (g_NOUGHT : GlobD K mg "NOUGHT" (sh 0)) (d : MethK K C_Sums "within" "Sums.within" s_Sums_within ["self", "head", "i", "j"])  : OkM P w K mg base CX0 2 C_Sums "within" ["self", "head", "i", "j"] (spP K 4 (C_within C_Sums)) := by
  refine om_pure d sc_Sums_within rfl fun f cdv A outer s H E hr ds r hC B hB => ?_
  obtain ⟨g, row, hs, br, ch, kw, kn, h, i, j, rfl, rfl⟩ := hC
  refine w_ret (p_getT (k := kS (h, i, j)) hr.units (p_fld (p_var (i := 0) rfl (.inl rfl) rfl) c_Sums.c c_Sums.n_known_sums rfl) (pl_cons (p_var (i := 1) rfl (.inl rfl) rfl) (pl_cons (p_var (i := 2) rfl (.inl rfl) rfl) (pl_cons (p_var (i := 3) rfl (.inl rfl) rfl) pl_nil))) (p_globD g_NOUGHT rfl)) ?_
  show (vA (kn.1.map kS) (kn.2.map sh) (kS (h, i, j))).getD (sh 0) = sh (getS kn h i j)
  rw [vA_map kS_inj]
  unfold getS
  cases vA kn.1 kn.2 (h, i, j) <;> rfl
theorem ok_Sums_whole (z : Zs mg) (c_Sums : ClsS K C_Sums) (c_Grammar : ClsG K C_Grammar) (d : MethK K C_Sums "whole" "Sums.whole" s_Sums_whole ["self"]) (o_Sums_within : OkM P w K mg base CX0 2 C_Sums "within" ["self", "head", "i", "j"] (spP K 4 (C_within C_Sums))) (o_Grammar_start : OkM P w K mg base CX0 2 C_Grammar "start" ["self"] (spP K 1 (C_gStart C_Grammar))) : OkM P w K mg base CX0 3 C_Sums "whole" ["self"] (spP K 1 (C_wholeS C_Sums C_Grammar)) := by
  refine om_pure d sc_Sums_whole rfl fun f cdv A outer s H E hr ds r hC B hB => ?_
  obtain ⟨st, rs, row, hs, br, ch, kw, kn, rfl, rfl⟩ := hC
  refine w_ret (p_meth (d := sh (getS kn st 0 row.length)) o_Sums_within c_Sums.c (hr.mono (by decide)) (p_var (i := 0) rfl (.inl rfl) rfl) nm_Sums_within (pl_cons (p_meth0 (d := .str st) o_Grammar_start c_Grammar.c (hr.mono (by decide)) (p_fld (p_var (i := 0) rfl (.inl rfl) rfl) c_Sums.c c_Sums.n_grammar rfl) nm_Grammar_start ?_) (pl_cons p_int (pl_cons (p_lenT z.len rfl (p_fld (p_var (i := 0) rfl (.inl rfl) rfl) c_Sums.c c_Sums.n_row rfl)) pl_nil))) ?_) ?_
  · exact ⟨st, rs, rfl, rfl⟩
  · exact ⟨gD C_Grammar st rs, bodyD row, hs, br, ch, kw, kn, st, 0, row.length, by rw [List.length_map]; rfl, rfl⟩
  rfl
theorem ok_Sums_worth (c_Sums : ClsS K C_Sums) (g_NOUGHT : GlobD K mg "NOUGHT" (sh 0)) (g_ONE : GlobD K mg "ONE" (sh 1)) (d : MethK K C_Sums "worth" "Sums.worth" s_Sums_worth ["self", "symbol", "i", "j"]) (o_Sums_within : OkM P w K mg base CX0 2 C_Sums "within" ["self", "head", "i", "j"] (spP K 4 (C_within C_Sums))) : OkM P w K mg base CX0 3 C_Sums "worth" ["self", "symbol", "i", "j"] (spP K 4 (C_worth C_Sums)) := by
  refine om_pure d sc_Sums_worth rfl fun f cdv A outer s H E hr ds r hC B hB => ?_
  obtain ⟨g, br, ch, kw, row, hs, kn, x, i, j, rfl, rfl, hi⟩ := hC
  refine w_if (t_cmp (c_in hr.units (p_var (i := 1) rfl (.inl rfl) rfl) (p_fld (p_var (i := 0) rfl (.inl rfl) rfl) c_Sums.c c_Sums.n_known_heads rfl) (.inl rfl) ?_)) ?_ ?_
  · exact strs_kin
  · intro hk
    rw [in_strs] at hk
    have hk := of_decide_eq_true hk
    refine w_ret (p_meth (d := sh (getS kn x i j)) o_Sums_within c_Sums.c (hr.mono (by decide)) (p_var (i := 0) rfl (.inl rfl) rfl) nm_Sums_within (pl_cons (p_var (i := 1) rfl (.inl rfl) rfl) (pl_cons (p_var (i := 2) rfl (.inl rfl) rfl) (pl_cons (p_var (i := 3) rfl (.inl rfl) rfl) pl_nil))) ?_) ?_
    · exact ⟨_, _, _, _, _, _, kn, x, i, j, rfl, rfl⟩
    unfold woS
    rw [if_pos hk]
  · intro hk
    rw [in_strs] at hk
    have hk := of_decide_eq_false hk
    refine w_nil ?_
    obtain ⟨y, hr0⟩ : ∃ y, row[i]? = some y := ⟨_, List.getElem?_eq_getElem hi⟩
    refine w_ret (p_ite (d := sh (woS hs row kn i j x)) (PW3.t (tw_and (t_cmp (c_eqI (p_var (i := 3) rfl (.inl rfl) rfl) (p_add (p_var (i := 2) rfl (.inl rfl) rfl) p_int))) fun _ => (tw_and1 (t_cmp (c_eqS (p_ixT (d := .str y) (p_fld (p_var (i := 0) rfl (.inl rfl) rfl) c_Sums.c c_Sums.n_row rfl) (p_var (i := 2) rfl (.inl rfl) rfl) ?_) (p_var (i := 1) rfl (.inl rfl) rfl)))))) (fun hc => (p_eq (p_globD g_ONE rfl) ?_)) (fun hc => (p_eq (p_globD g_NOUGHT rfl) ?_))) ?_
    · exact atI_nat (by rw [List.getElem?_map, hr0]; rfl)
    · rw [Bool.and_eq_true] at hc
      have h1 := of_decide_eq_true hc.1
      have h2 := of_decide_eq_true hc.2
      unfold woS
      rw [if_neg hk, if_pos ⟨by omega, by rw [hr0, h2]⟩]
    · unfold woS
      rw [if_neg hk, if_neg ?_]
      rintro ⟨h1, h2⟩
      rw [hr0] at h2
      rw [decide_eq_true (show (j : Int) = (i : Int) + 1 by omega), decide_eq_true (Option.some.inj h2)] at hc
      cases hc
    rfl
theorem ok_Sums_worth_of_body (z : Zs mg) (c_Sums : ClsS K C_Sums) (d : MethK K C_Sums "worth_of_body" "Sums.worth_of_body" s_Sums_worth_of_body ["self", "body", "i", "j"]) (o_Sums_worth : OkM P w K mg base CX0 3 C_Sums "worth" ["self", "symbol", "i", "j"] (spP K 4 (C_worth C_Sums))) : OkM P w K mg base CX0 4 C_Sums "worth_of_body" ["self", "body", "i", "j"] (spP K 4 (C_worthB C_Sums)) := by
  refine om_pure d sc_Sums_worth_of_body rfl fun f cdv A outer s H E hr ds r hC B hB => ?_
  obtain ⟨g, br, ch, kw, row, hs, kn, x, i, j, rfl, rfl, hi⟩ := hC
  refine w_if (t_cmp (c_eqI (p_lenT z.len rfl (p_var (i := 1) rfl (.inl rfl) rfl)) p_int)) ?_ ?_
  · intro hk
    refine w_ret (p_meth (d := sh (woS hs row kn i j x)) o_Sums_worth c_Sums.c (hr.mono (by decide)) (p_var (i := 0) rfl (.inl rfl) rfl) nm_Sums_worth (pl_cons (p_ixT (d := .str x) (p_var (i := 1) rfl (.inl rfl) rfl) p_int ?_) (pl_cons (p_var (i := 2) rfl (.inl rfl) rfl) (pl_cons (p_var (i := 3) rfl (.inl rfl) rfl) pl_nil))) ?_) ?_
    · rfl
    · exact ⟨g, br, ch, kw, row, hs, kn, x, i, j, rfl, rfl, hi⟩
    rfl
  · intro hk
    have hk : decide ((1 : Int) = 1) = false := hk
    exact absurd hk (by decide)
theorem ok_Sums_ends_at (c_Sums : ClsS K C_Sums) (g_NOUGHT : GlobD K mg "NOUGHT" (sh 0)) (d : MethK K C_Sums "ends_at" "Sums.ends_at" s_Sums_ends_at ["self", "i", "j"]) (o_Sums_worth_of_body : OkM P w K mg base CX0 4 C_Sums "worth_of_body" ["self", "body", "i", "j"] (spP K 4 (C_worthB C_Sums))) (o_added : OkF P w K mg base CX0 33 "added" ["one", "other"] (spP K 2 C_added)) (o_timed : OkF P w K mg base CX0 34 "timed" ["one", "other"] (spP K 2 C_timed)) : OkM P w K mg base CX0 36 C_Sums "ends_at" ["self", "i", "j"] (spP K 3 (C_endsAt C_Sums)) := by
  refine om_pure d sc_Sums_ends_at rfl fun f cdv A outer s H E hr ds r hC B hB => ?_
  obtain ⟨g, ch, kw, row, hs, br, kn, i, j, s', t, rfl, rfl, hi, hbl, hbr, hkn, ht1, hbb⟩ := hC
  have hwo : ∀ x, 0 ≤ woS hs row kn i j x ∧ Sz t (woS hs row kn i j x) := fun x => woS_ok hkn ht1
  refine w_setV (i := 3) sc_Sums_ends_at.nd rfl (.inl rfl) (v_newK fun l => ?_)
  refine w_for PassesOwn.never rfl (i_list (p_fld (p_var (i := 0) rfl (.inl rfl) rfl) c_Sums.c c_Sums.n_branches rfl)) (fun k Γ Ω => ∃ x4 x5, Γ = [some (sO C_Sums g (bodyD row) (.lst (strsD hs)) (.lst (rulesD br)) ch (knD kn) kw), some (.int (i : Int)), some (.int (j : Int)), some (.raw (.ref l)), x4, x5] ∧ Ω = [(l, oDk K (((br.take k).foldl (endStep (woS hs row kn i j)) ([], [])).1.map inrK) (((br.take k).foldl (endStep (woS hs row kn i j)) ([], [])).2.map sh))]) ⟨_, _, rfl, rfl⟩ ?_ ?_
  · rintro k d Γ Ω hd ⟨x4, x5, rfl, rfl⟩
    obtain ⟨r, hr', rfl⟩ := rulesD_get hd
    have hk' : k < br.length := (List.getElem?_eq_some_iff.mp hr').1
    obtain ⟨⟨y, hy⟩, hq⟩ := hbr r (List.mem_of_getElem? hr')
    have ey : b0 r = y := by unfold b0; rw [hy]; rfl
    have eo := endsF_ok (wo := woS hs row kn i j) hbr hwo k (by omega)
    have en : (br.take (k + 1)).foldl (endStep (woS hs row kn i j)) ([], []) = endStep (woS hs row kn i j) ((br.take k).foldl (endStep (woS hs row kn i j)) ([], [])) r := by rw [take_get hr', List.foldl_append]; rfl
    rw [en]
    generalize (br.take k).foldl (endStep (woS hs row kn i j)) ([], []) = e at *
    refine ⟨_, (g_name (i := 4) sc_Sums_ends_at.nd rfl (.inl rfl)), ?_⟩
    refine w_set (i := 5) sc_Sums_ends_at.nd rfl (.inl rfl) (p_meth (d := sh (woS hs row kn i j y)) o_Sums_worth_of_body c_Sums.c (hr.mono (by decide)) (p_var (i := 0) rfl (.inl rfl) rfl) nm_Sums_worth_of_body (pl_cons (p_ixT (p_var (i := 4) rfl (.inl rfl) rfl) p_int rfl) (pl_cons (p_var (i := 1) rfl (.inl rfl) rfl) (pl_cons (p_var (i := 2) rfl (.inl rfl) rfl) pl_nil))) ?_) ?_
    · refine ⟨g, .lst (rulesD br), ch, kw, row, hs, kn, y, i, j, ?_, rfl, hi⟩
      rw [hy]
      rfl
    refine w_if (t_cmp (c_ne hr.units (p_var (i := 5) rfl (.inl rfl) rfl) (p_globD g_NOUGHT rfl) kin_sh dep_sh)) ?_ ?_
    · intro hz
      rw [beq_sh] at hz
      have hz : ¬ woS hs row kn i j y = 0 := by simpa using hz
      have b1 : 1 ≤ brB k s' t := by unfold brB; omega
      have gg := eo.get b1 (x := r.1)
      have hB : brB (k + 1) s' t ≤ big := Nat.le_trans (brB_mono (by omega)) hbb
      rw [brB_succ] at hB
      have hw := hwo y
      refine w_setK (k := inrK r.1) hr.units (p_var (i := 3) rfl (.inl rfl) rfl) (p_ixT (p_var (i := 4) rfl (.inl rfl) rfl) p_int rfl) (v_call o_added (hr.mono (by decide)) rfl (vl_cons (v_getK (k := inrK r.1) hr.units (p_var (i := 3) rfl (.inl rfl) rfl) (List.mem_singleton.mpr rfl) (p_ixT (p_var (i := 4) rfl (.inl rfl) rfl) p_int rfl) (p_globD g_NOUGHT rfl) (vl_cons (v_pure (p_call (d := sh (r.2.2 * woS hs row kn i j y)) o_timed (hr.mono (by decide)) rfl (pl_cons (p_ixT (p_var (i := 4) rfl (.inl rfl) rfl) p_int rfl) (pl_cons (p_var (i := 5) rfl (.inl rfl) rfl) pl_nil)) ?_) (vl_pure pl_nil ⟨sh ((vA e.1 e.2 r.1).getD 0 + r.2.2 * woS hs row kn i j y), ?_, rfl, _, _, [], List.Perm.refl _, ?_, ?_⟩))))))
      · exact ⟨r.2.2, woS hs row kn i j y, s', t, rfl, rfl, hq.1, hw.1, hq.2, hw.2, by omega, by omega, trivial⟩
      · refine ⟨(vA e.1 e.2 r.1).getD 0, r.2.2 * woS hs row kn i j y, brB k s' t, s' + t, ?_, rfl, gg.1, q_nn_mul hq.1 hw.1, gg.2, sz_mul hq.2 hw.2, by omega, by omega, trivial⟩
        rw [vA_map inrK_inj]
        cases vA e.1 e.2 r.1 <;> rfl
      · rw [List.length_map, sizeLine_eq]
        have := eo.len
        omega
      · refine w_nil (w_nil ⟨_, _, rfl, ?_⟩)
        rw [pK_map inrK_inj, pA_map inrK_inj]
        unfold endStep
        rw [ey, if_neg hz]
        rfl
    · intro hz
      rw [beq_sh] at hz
      have hz : woS hs row kn i j y = 0 := by simpa using hz
      refine w_nil (w_nil ⟨_, _, rfl, ?_⟩)
      unfold endStep
      rw [ey, if_pos hz]
  · rintro Γ Ω ⟨x4, x5, rfl, rfl⟩
    rw [rulesD_len, List.take_length]
    refine w_frzK (i := 3) rfl ?_
    refine w_ret (p_var (i := 3) rfl (.inl rfl) rfl) ?_
    rfl
end
end Law
set_option Elab.async false
set_option linter.all false
set_option maxRecDepth 100000
set_option maxHeartbeats 4000000
namespace Law
open PySem L2 L3
section
variable {P : Program} {w : World} {K : PySem.W.Frag} {mg : Str → Option Value} {base : Heap} {C_Grammar C_Sums : Addr}
theorem ok_Sums_settle (c_Sums : ClsS K C_Sums) (g_NOUGHT : GlobD K mg "NOUGHT" (sh 0)) (d : MethK K C_Sums "settle" "Sums.settle" s_Sums_settle ["self", "i", "j"]) (o_Sums_ends_at : OkM P w K mg base CX0 36 C_Sums "ends_at" ["self", "i", "j"] (spP K 3 (C_endsAt C_Sums))) (o_sum_of_products : OkF P w K mg base CX0 34 "sum_of_products" ["pairs"] (spP K 1 C_sop)) : OkM P w K mg base CX0 38 C_Sums "settle" ["self", "i", "j"] (spS K 3 (omS K C_Sums) (C_settle C_Sums)) := by
  refine om_state d sc_Sums_settle rfl settle_om fun f cdv A outer s H E hr t ds t' r hC B => ?_
  obtain ⟨i, j, s', u, v, rfl, rfl, rfl, so⟩ := hC
  obtain ⟨a, b, g, row, hs, br, L, ch, kw, kn⟩ := t
  obtain ⟨h1, h2, h3, h4, h5, h6, h7, h8, h9, h10⟩ := so
  dsimp only at h1 h2 h3 h4 h5 h6 h7 h8 h9 h10
  have hB : big = 67108864 := rfl
  have eo := endsF_ok (wo := woS hs row kn i j) h4 (fun x => woS_ok h5 h6) br.length (Nat.le_refl _)
  rw [List.take_length] at eo
  have ek := en_keys (wo := woS hs row kn i j) (e := ([], [])) h3 (fun x hx => by cases hx)
  refine w_setV (i := 3) sc_Sums_settle.nd rfl (.inr rfl) (v_lendS (L := false) (d := enD (endsF (woS hs row kn i j) br)) (Γ' := [some (sO C_Sums g (bodyD row) (.lst (strsD hs)) (.lst (rulesD br)) (chD L ch) (knD kn) kw), some (.int (i : Int)), some (.int (j : Int)), none, none, none]) (p_meth o_Sums_ends_at c_Sums.c (hr.mono (by decide)) (p_var (i := 0) rfl (.inr (.inl rfl)) rfl) nm_Sums_ends_at (pl_cons (p_var (i := 1) rfl (.inl rfl) rfl) (pl_cons (p_var (i := 2) rfl (.inl rfl) rfl) pl_nil)) ?_) (lentS_obj (i := 0) (j := 5) (a := a) (b := b) (lentS_of lent_refl) rfl (List.mem_cons_self) rfl (List.mem_cons_of_mem _ List.mem_cons_self)) (hard_cons hard_ins (hard_cons hard_dt hard_nil)) solid_en ?_)
  · exact ⟨g, chD L ch, kw, row, hs, br, kn, i, j, s', u, rfl, rfl, h1, h2, h4, h5, h6, by omega⟩
  unfold settleF
  dsimp only
  change EnOk (brB br.length s' u) br.length (endsF (woS hs row kn i j) br) at eo
  change ∀ x ∈ (endsF (woS hs row kn i j) br).1, x ∈ L at ek
  generalize endsF (woS hs row kn i j) br = e at *
  have b1 : 1 ≤ brB br.length s' u := by unfold brB; omega
  refine w_forV PassesOwn.never rfl (iv_dict (v_fldO (d := chD L ch) (a := a) (p_var (i := 0) rfl (.inr (.inl rfl)) rfl) List.mem_cons_self c_Sums.c c_Sums.n_chains rfl ⟨_, _, rfl, fun k Γ Ω => ∃ x4 x5, Γ = [some (.raw (.ref a)), some (.int (i : Int)), some (.int (j : Int)), some (enD e), x4, x5] ∧ Ω = omS K C_Sums ⟨a, b, g, row, hs, br, L, ch, kw, (L.take k).foldl (setStep L ch e i j) kn⟩, ⟨_, _, rfl, rfl⟩, ?_, ?_⟩))
  · rintro k d Γ Ω hd ⟨x4, x5, rfl, rfl⟩
    rw [← strs_keys] at hd
    obtain ⟨h, hh, rfl⟩ := strsD_get hd
    have hk : k < L.length := (List.getElem?_eq_some_iff.mp hh).1
    have hL := List.mem_of_getElem? hh
    have ps := pairs_ok h7 eo b1 ek hL
    have en : (L.take (k + 1)).foldl (setStep L ch e i j) kn = setStep L ch e i j ((L.take k).foldl (setStep L ch e i j) kn) h := by rw [take_get hh, List.foldl_append]; rfl
    have kl := kn_len (L := L) (ch := ch) (e := e) (i := i) (j := j) (hs := L.take k) (kn := kn)
    rw [List.length_take] at kl
    generalize (L.take k).foldl (setStep L ch e i j) kn = kn' at *
    refine ⟨_, (g_name (i := 4) sc_Sums_settle.nd rfl (.inr rfl)), ?_⟩
    have h7l := h7.len
    refine w_setV (i := 5) sc_Sums_settle.nd rfl (.inl rfl) (v_lend (L := false) (d := sh (totS L ch e h)) (Γ' := [some (.obj C_Sums sF [g, bodyD row, .lst (strsD hs), .lst (rulesD br), chD L ch, .raw (.ref b), kw]), some (.int (i : Int)), some (.int (j : Int)), some (enD e), some (.str h), x5]) (p_call (d := sh (totS L ch e h)) o_sum_of_products (hr.mono (by decide)) rfl (pl_cons (PF3.p (pf_comp (SX := defScope s_Sums_settle) (XN := ["self", "i", "j", "ends", "head", "total"]) (N := ["last", "self", "ends", "head"]) (nt := 1) (caps := [0, 3, 4]) (pre := (fun k => ((e.1.take k).map fun o => (chS L ch h o, (vA e.1 e.2 o).getD 0)).map shPair)) ⟨rfl, by decide +kernel, by decide +kernel, by decide +kernel, rfl, by decide +kernel⟩ (i_dict (p_var (i := 3) rfl (.inr (.inl rfl)) rfl)) ?_ ?_ ?_)) pl_nil) ?_) (lent_set (i := 0) lent_refl rfl List.mem_cons_self lends_ins) (hard_cons hard_ins (hard_cons hard_dt hard_nil)) rfl ?_)
    · intro k hk
      rw [List.length_map] at hk
      rw [List.length_map, List.length_map, List.length_take, sizeLine_eq]
      have := eo.len
      omega
    · rfl
    · intro c k d hd
      rw [List.map_map] at hd
      obtain ⟨o, ho, rfl⟩ := map_get hd
      have hoL := ek o (List.mem_of_getElem? ho)
      refine ⟨_, (g_name (i := 0) (show List.Nodup (α := Str) ["last", "self", "ends", "head"] by decide +kernel) rfl (.inl rfl)), (Sub.set rfl), .inl ⟨shPair (chS L ch h o, (vA e.1 e.2 o).getD 0), ts_nil, (p_tup (pl_cons (p_ixK (k := inrK o) (d := sh (chS L ch h o)) hr.units (p_ixK (k := inrK h) (d := .dk (L.map inrK) (tb L.length fun j => sh (ch (L.idxOf h) j))) hr.units (p_fld (p_var (i := 1) rfl (.inr (.inl rfl)) rfl) c_Sums.c c_Sums.n_chains rfl) (p_var (i := 3) rfl (.inr (.inl rfl)) rfl) ?_) (p_var (i := 0) rfl (.inl rfl) rfl) ?_) (pl_cons (p_ixK (k := inrK o) (d := sh ((vA e.1 e.2 o).getD 0)) hr.units (p_var (i := 2) rfl (.inr (.inl rfl)) rfl) (p_var (i := 0) rfl (.inl rfl) rfl) ?_) pl_nil))), ?_⟩⟩
      · exact chD_at h7.nd hL
      · exact chD_at h7.nd hoL
      · exact enD_at eo.eq (List.mem_of_getElem? ho)
      · dsimp only
        rw [take_get ho, List.map_append, List.map_append]
        rfl
    · rw [List.length_map, List.length_map, List.take_length]
      refine ⟨pairsE L ch e h, max v (brB br.length s' u), rfl, rfl, ps, ?_, by omega⟩
      rw [pairsE_len]
      refine Nat.le_trans ?_ h9
      unfold sopB
      have := Nat.mul_le_mul_right (4 * max v (brB br.length s' u) + 2) eo.len
      omega
    refine w_if (t_cmp (c_ne hr.units (p_var (i := 5) rfl (.inl rfl) rfl) (p_globD g_NOUGHT rfl) kin_sh dep_sh)) ?_ ?_
    · intro hz
      rw [beq_sh] at hz
      have hz : ¬ totS L ch e h = 0 := by simpa using hz
      refine w_setT (l := b) (k := kS (h, i, j)) (kt := knK kn') (ds := knV kn') hr.units (v_fldO (d := .raw (.ref b)) (a := a) (p_var (i := 0) rfl (.inr (.inl rfl)) rfl) List.mem_cons_self c_Sums.c c_Sums.n_known_sums rfl ⟨rfl, rfl⟩) (pl_cons (p_var (i := 4) rfl (.inr (.inl rfl)) rfl) (pl_cons (p_var (i := 1) rfl (.inl rfl) rfl) (pl_cons (p_var (i := 2) rfl (.inl rfl) rfl) pl_nil))) (p_var (i := 5) rfl (.inl rfl) rfl) (List.Perm.swap ..) ?_ ?_
      · unfold knK
        rw [List.length_map, sizeLine_eq]
        omega
      · refine w_perm (List.Perm.swap ..) (w_nil (w_nil ⟨_, _, rfl, ?_⟩))
        rw [en]
        unfold setStep
        rw [if_neg hz]
        unfold omS putS
        dsimp only
        rw [show knK (pK kn'.1 (h, i, j), pA kn'.1 kn'.2 (h, i, j) (totS L ch e h)) = pK (knK kn') (kS (h, i, j)) from (pK_map kS_inj).symm, show knV (pK kn'.1 (h, i, j), pA kn'.1 kn'.2 (h, i, j) (totS L ch e h)) = pA (knK kn') (knV kn') (kS (h, i, j)) (sh (totS L ch e h)) from (pA_map kS_inj).symm]
        rfl
    · intro hz
      rw [beq_sh] at hz
      have hz : totS L ch e h = 0 := by simpa using hz
      refine w_nil (w_nil ⟨_, _, rfl, ?_⟩)
      rw [en]
      unfold setStep
      rw [if_pos hz]
  · rintro Γ Ω ⟨x4, x5, rfl, rfl⟩
    rw [List.length_map, List.length_map, List.take_length]
    exact w_nil ⟨rfl, rfl⟩
end
end Law
set_option Elab.async false
set_option linter.all false
set_option maxRecDepth 100000
set_option maxHeartbeats 4000000
namespace Law
open PySem L2 L3
section
variable {P : Program} {w : World} {K : PySem.W.Frag} {mg : Str → Option Value} {base : Heap} {C_Grammar C_Sums : Addr}
theorem ok_Sums (z : Zs mg) (c_Sums : ClsS K C_Sums) (c_Grammar : ClsG K C_Grammar) (d : InitK K mg "Sums" C_Sums "Sums.__init__" s_Sums___init__ ["self", "grammar", "row"]) (o_Grammar_live : OkM P w K mg base CX0 2 C_Grammar "live" ["self"] (spF K 1 (C_gLive C_Grammar))) (o_live_rules : OkF P w K mg base CX0 3 "live_rules" ["grammar"] (spP K 1 (C_liveR C_Grammar))) (o_Grammar_heads : OkM P w K mg base CX0 2 C_Grammar "heads" ["self"] (spF K 1 (C_gHeads C_Grammar))) (o_is_step : OkF P w K mg base CX0 2 "is_step" ["rule", "heads"] (spP K 2 C_isStp)) (o_chains_of : OkF P w K mg base CX0 38 "chains_of" ["heads", "steps"] (spP K 2 C_chains)) (o_stretches : OkF P w K mg base CX0 2 "stretches" ["row"] (spP K 1 C_strs)) (o_Sums_settle : OkM P w K mg base CX0 38 C_Sums "settle" ["self", "i", "j"] (spS K 3 (omS K C_Sums) (C_settle C_Sums))) : OkI P w K mg base CX0 40 "Sums" C_Sums ["self", "grammar", "row"] (spI K 3 C_Sums (C_sums8 C_Grammar)) := by
  refine oi_init d sc_Sums___init__ rfl fun f cdv A outer s H E hr a ds r hC B hB => ?_
  obtain ⟨st, rs, row, s', rfl, rfl, so⟩ := hC
  have hrl := so.rl
  have lrl : (liveR (firsts rs) (liveOf rs) rs).length ≤ rs.length := List.length_filter_le _ _
  have brl : (brOf rs).length ≤ 30 := by have : (brOf rs).length ≤ _ := List.length_filter_le _ _; omega
  have ssl : (ssOf rs).length ≤ 30 := by have : (ssOf rs).length ≤ _ := List.length_filter_le _ _; omega
  have brm : ∀ r ∈ brOf rs, r ∈ rs := fun r hr' => (List.mem_filter.mp (List.mem_filter.mp hr').1).1
  have ssm : ∀ r ∈ ssOf rs, r ∈ rs := fun r hr' => (List.mem_filter.mp (List.mem_filter.mp hr').1).1
  refine w_set (i := 3) sc_Sums___init__.nd rfl (.inr rfl) (PF3.p (pf_meth0 (ds := strsD (liveOf rs)) o_Grammar_live c_Grammar.c (hr.mono (by decide)) (p_var (i := 1) rfl (.inl rfl) rfl) nm_Grammar_live ?_)) ?_
  · exact ⟨st, rs, rfl, rfl⟩
  refine w_set (i := 4) sc_Sums___init__.nd rfl (.inl rfl) (p_call (d := .lst (rulesD (liveR (firsts rs) (liveOf rs) rs))) o_live_rules (hr.mono (by decide)) rfl (pl_cons (p_var (i := 1) rfl (.inl rfl) rfl) pl_nil) ?_) ?_
  · exact ⟨st, rs, rfl, rfl, so.rl, so.body⟩
  refine w_setF (a := a) (p_var (i := 0) rfl (.inl rfl) rfl) c_Sums.c c_Sums.n_grammar (v_pure (p_var (i := 1) rfl (.inl rfl) rfl) ⟨[], [], [], List.Perm.refl _, by simp, by decide, ?_⟩)
  refine w_setF (a := a) (p_var (i := 0) rfl (.inl rfl) rfl) c_Sums.c c_Sums.n_row (v_pure (p_var (i := 2) rfl (.inl rfl) rfl) ⟨_, _, [], List.Perm.refl _, by decide, by decide, ?_⟩)
  refine w_setF (a := a) (p_var (i := 0) rfl (.inl rfl) rfl) c_Sums.c c_Sums.n_known_heads (v_pure (PF3.p (pf_meth0 (ds := strsD (firsts rs)) o_Grammar_heads c_Grammar.c (hr.mono (by decide)) (p_var (i := 1) rfl (.inl rfl) rfl) nm_Grammar_heads ?_)) ⟨_, _, [], List.Perm.refl _, by decide, by decide, ?_⟩)
  · exact ⟨st, rs, rfl, rfl⟩
  refine w_setF (a := a) (p_var (i := 0) rfl (.inl rfl) rfl) c_Sums.c c_Sums.n_branches (v_pure (PF3.p (pf_comp (SX := defScope s_Sums___init__) (XN := ["self", "grammar", "row", "live", "rules", "i", "j"]) (N := ["rule", "live"]) (nt := 1) (caps := [3]) (pre := (fun i => rulesD (((liveR (firsts rs) (liveOf rs) rs).take i).filter fun r => !isStp (liveOf rs) r))) ⟨rfl, by decide +kernel, by decide +kernel, by decide +kernel, rfl, by decide +kernel⟩ (i_list (p_var (i := 4) rfl (.inl rfl) rfl)) ?_ ?_ ?_)) ⟨_, _, [], List.Perm.refl _, by decide, by decide, ?_⟩)
  · intro i hi
    rw [rulesD_len, sizeLine_eq]
    have := List.length_filter_le (fun r : Rule => !isStp (liveOf rs) r) ((liveR (firsts rs) (liveOf rs) rs).take i)
    rw [List.length_take] at this
    omega
  · rfl
  · intro c i d hd
    obtain ⟨r, hr', rfl⟩ := rulesD_get hd
    cases q : isStp (liveOf rs) r with
    | false =>
      refine ⟨_, (g_name (i := 0) (show List.Nodup (α := Str) ["rule", "live"] by decide +kernel) rfl (.inl rfl)), (Sub.set rfl), .inl ⟨ruleD r, (ts_is (t_not (t_val (p_call (d := .bl false) o_is_step (hr.mono (by decide)) rfl (pl_cons (p_var (i := 0) rfl (.inl rfl) rfl) (pl_cons (p_var (i := 1) rfl (.inr (.inl rfl)) rfl) pl_nil)) ?_))) ?_), (p_var (i := 0) rfl (.inl rfl) rfl), ?_⟩⟩
      · exact ⟨r, _, rfl, by rw [q]⟩
      · rfl
      · show rulesD (((liveR (firsts rs) (liveOf rs) rs).take (i + 1)).filter fun r => !isStp (liveOf rs) r) = _
        rw [take_get hr', List.filter_append, List.filter_cons_of_pos (p := fun r : Rule => !isStp (liveOf rs) r) (by rw [q]; rfl)]
        unfold rulesD
        rw [List.map_append]
        rfl
    | true =>
      refine ⟨_, (g_name (i := 0) (show List.Nodup (α := Str) ["rule", "live"] by decide +kernel) rfl (.inl rfl)), (Sub.set rfl), .inr ⟨(ts_is (t_not (t_val (p_call (d := .bl true) o_is_step (hr.mono (by decide)) rfl (pl_cons (p_var (i := 0) rfl (.inl rfl) rfl) (pl_cons (p_var (i := 1) rfl (.inr (.inl rfl)) rfl) pl_nil)) ?_))) ?_), ?_⟩⟩
      · exact ⟨r, _, rfl, by rw [q]⟩
      · rfl
      · show rulesD (((liveR (firsts rs) (liveOf rs) rs).take (i + 1)).filter fun r => !isStp (liveOf rs) r) = _
        rw [take_get hr', List.filter_append, List.filter_cons_of_neg (p := fun r : Rule => !isStp (liveOf rs) r) (by rw [q]; decide)]
        simp
  rw [rulesD_len, List.take_length]
  refine w_setF (a := a) (p_var (i := 0) rfl (.inl rfl) rfl) c_Sums.c c_Sums.n_chains (v_pure (p_call (d := chD (liveOf rs) (chOf rs)) o_chains_of (hr.mono (by decide)) rfl (pl_cons (p_var (i := 3) rfl (.inr (.inl rfl)) rfl) (pl_cons (PF3.p (pf_comp (SX := defScope s_Sums___init__) (XN := ["self", "grammar", "row", "live", "rules", "i", "j"]) (N := ["rule", "live"]) (nt := 1) (caps := [3]) (pre := (fun i => rulesD (((liveR (firsts rs) (liveOf rs) rs).take i).filter (isStp (liveOf rs))))) ⟨rfl, by decide +kernel, by decide +kernel, by decide +kernel, rfl, by decide +kernel⟩ (i_list (p_var (i := 4) rfl (.inl rfl) rfl)) ?_ ?_ ?_)) pl_nil)) ?_) ⟨_, _, [], List.Perm.refl _, by decide, by decide, ?_⟩)
  · intro i hi
    rw [rulesD_len, sizeLine_eq]
    have := List.length_filter_le (isStp (liveOf rs)) ((liveR (firsts rs) (liveOf rs) rs).take i)
    rw [List.length_take] at this
    omega
  · rfl
  · intro c i d hd
    obtain ⟨r, hr', rfl⟩ := rulesD_get hd
    cases q : isStp (liveOf rs) r with
    | true =>
      refine ⟨_, (g_name (i := 0) (show List.Nodup (α := Str) ["rule", "live"] by decide +kernel) rfl (.inl rfl)), (Sub.set rfl), .inl ⟨ruleD r, (ts_one (t_val (p_call (d := .bl true) o_is_step (hr.mono (by decide)) rfl (pl_cons (p_var (i := 0) rfl (.inl rfl) rfl) (pl_cons (p_var (i := 1) rfl (.inr (.inl rfl)) rfl) pl_nil)) ?_))), (p_var (i := 0) rfl (.inl rfl) rfl), ?_⟩⟩
      · exact ⟨r, _, rfl, by rw [q]⟩
      · show rulesD (((liveR (firsts rs) (liveOf rs) rs).take (i + 1)).filter (isStp (liveOf rs))) = _
        rw [take_get hr', List.filter_append, List.filter_cons_of_pos (p := isStp (liveOf rs)) q]
        unfold rulesD
        rw [List.map_append]
        rfl
    | false =>
      refine ⟨_, (g_name (i := 0) (show List.Nodup (α := Str) ["rule", "live"] by decide +kernel) rfl (.inl rfl)), (Sub.set rfl), .inr ⟨(ts_one (t_val (p_call (d := .bl false) o_is_step (hr.mono (by decide)) rfl (pl_cons (p_var (i := 0) rfl (.inl rfl) rfl) (pl_cons (p_var (i := 1) rfl (.inr (.inl rfl)) rfl) pl_nil)) ?_))), ?_⟩⟩
      · exact ⟨r, _, rfl, by rw [q]⟩
      · show rulesD (((liveR (firsts rs) (liveOf rs) rs).take (i + 1)).filter (isStp (liveOf rs))) = _
        rw [take_get hr', List.filter_append, List.filter_cons_of_neg (p := isStp (liveOf rs)) (by rw [q]; decide)]
        simp
  · rw [rulesD_len, List.take_length]
    refine ⟨liveOf rs, ssOf rs, s', rfl, rfl, so.nd, so.ll, ssl, fun r hr' => ?_, so.keys, fun r hr' => so.sz r (ssm r hr'), so.s1, so.sk, so.piv⟩
    have := (List.mem_filter.mp hr').2
    unfold isStp at this
    split at this
    · rename_i x hx
      exact ⟨x, hx⟩
    · cases this
  refine w_setF (a := a) (p_var (i := 0) rfl (.inl rfl) rfl) c_Sums.c c_Sums.n_known_sums (v_newT fun b => ⟨_, _, [(b, oDt K [] [])], List.Perm.swap .., by decide, by decide, ?_⟩)
  refine w_setF (a := a) (p_var (i := 0) rfl (.inl rfl) rfl) c_Sums.c c_Sums.n_known_worths (v_pure p_newT ⟨_, _, [(b, oDt K [] [])], List.Perm.refl _, by decide, by decide, ?_⟩)
  have chk : ChOk (liveOf rs) (sK s' (liveOf rs).length) (chOf rs) := ⟨so.nd, so.ll, chF_good (fun r hr' => so.sz r (ssm r hr')) so.s1 so.piv⟩
  have bro : BrOk s' (brOf rs) := fun r hr' => ⟨so.one r hr', so.sz r (brm r hr')⟩
  have key := fun k hk => allK_ok (k := k) so chk bro hk
  have wl := so.wl
  refine w_for PassesOwn.never rfl (i_list (p_call (d := .lst ((strA row.length).map pairD)) o_stretches (hr.mono (by decide)) rfl (pl_cons (p_var (i := 2) rfl (.inl rfl) rfl) pl_nil) ?_)) (fun k Γ Ω => ∃ x5 x6, Γ = [some (.raw (.ref a)), some (gD C_Grammar st rs), some (bodyD row), some (.lst (strsD (liveOf rs))), some (.lst (rulesD (liveR (firsts rs) (liveOf rs) rs))), x5, x6] ∧ Ω = omS K C_Sums ⟨a, b, gD C_Grammar st rs, row, firsts rs, brOf rs, liveOf rs, chOf rs, .dt [] [], allK rs row k⟩) ⟨_, _, rfl, rfl⟩ ?_ ?_
  · exact ⟨row, rfl, rfl, so.wl⟩
  · rintro k d Γ Ω hd ⟨x5, x6, rfl, rfl⟩
    obtain ⟨p, hp, rfl⟩ := map_get hd
    have hk : k < (strA row.length).length := (List.getElem?_eq_some_iff.mp hp).1
    refine ⟨_, (g_tup rfl (gl_cons (g_name (i := 5) sc_Sums___init__.nd rfl (.inl rfl)) (gl_cons (g_name (i := 6) sc_Sums___init__.nd rfl (.inl rfl)) gl_nil))), ?_⟩
    refine w_exprV (v_methS (t := ⟨a, b, gD C_Grammar st rs, row, firsts rs, brOf rs, liveOf rs, chOf rs, .dt [] [], allK rs row k⟩) (t' := ⟨a, b, gD C_Grammar st rs, row, firsts rs, brOf rs, liveOf rs, chOf rs, .dt [] [], allK rs row (k + 1)⟩) (d := .non) (Ω4 := []) o_Sums_settle c_Sums.c (hr.mono (by decide)) (p_var (i := 0) rfl (.inl rfl) rfl) List.mem_cons_self nm_Sums_settle (pl_cons (p_var (i := 5) rfl (.inl rfl) rfl) (pl_cons (p_var (i := 6) rfl (.inl rfl) rfl) pl_nil)) rfl (List.Perm.refl _) ?_ ?_)
    · exact ⟨p.1, p.2, s', _, _, rfl, by rw [allK_succ hp], rfl, strA_lt (List.mem_of_getElem? hp), brl, so.hd, bro, (key k hk).1, (key k hk).2.1, chk, (so.bits k hk).1, (so.bits k hk).2, (key k hk).2.2⟩
    · exact w_nil ⟨_, _, rfl, rfl⟩
  · rintro Γ Ω ⟨x5, x6, rfl, rfl⟩
    rw [List.length_map]
    refine w_frzF (j := 5) rfl (w_nil ?_)
    rw [show allK rs row (strA row.length).length = knOf rs row from allK_end]
    rfl
end
end Law
set_option Elab.async false
set_option linter.all false
set_option maxRecDepth 100000
set_option maxHeartbeats 4000000
namespace Law
open PySem L2 L3
section
variable {P : Program} {w : World} {K : PySem.W.Frag} {mg : Str → Option Value} {base : Heap} {C_Grammar C_Sums : Addr}
theorem ok_law_cell_at (z : Zs mg) (d : DefK K mg "_law_cell_at" s_law_cell_at ["_law_script", "_law_k"])  : OkF P w K mg base CX0 2 "_law_cell_at" ["_law_script", "_law_k"] (spP K 2 C_cell) := by
  refine ok_pure d sc_law_cell_at rfl fun f cdv A outer s H E hr ds r hC B hB => ?_
  obtain ⟨ns, k, rfl, rfl⟩ := hC
  refine w_if (t_cmp (c_lt (p_var (i := 1) rfl (.inl rfl) rfl) (p_lenI z.len rfl (p_var (i := 0) rfl (.inl rfl) rfl)))) ?_ ?_
  · intro hk
    have hk := of_decide_eq_true hk
    refine w_ret (p_ixI (n := ns.getD k 0) (p_var (i := 0) rfl (.inl rfl) rfl) (p_var (i := 1) rfl (.inl rfl) rfl) ?_) ?_
    · have hk' : k < ns.length := by omega
      show atI ns (k : Int) = some (ns.getD k 0)
      unfold atI ixN
      rw [if_pos (by omega), if_pos (by omega)]
      show ns[((k : Int)).toNat]? = _
      rw [Int.toNat_natCast, List.getD_eq_getElem?_getD, List.getElem?_eq_getElem hk']
      rfl
    · rfl
  · intro hk
    have hk := of_decide_eq_false hk
    refine w_nil ?_
    refine w_ret p_int ?_
    show D.int 0 = D.int (ns.getD k 0)
    rw [List.getD_eq_getElem?_getD, List.getElem?_eq_none_iff.mpr (by omega)]
    rfl
theorem ok_law_whole (z : Zs mg) (d : DefK K mg "_law_whole" s_law_whole ["_law_found"])  : OkF P w K mg base CX0 2 "_law_whole" ["_law_found"] (spP K 1 C_whole) := by
  refine ok_pure d sc_law_whole rfl fun f cdv A outer s H E hr ds r hC B hB => ?_
  obtain ⟨i, rfl, rfl⟩ := hC
  refine w_ret (p_and (p_isin (k := true) z.isinstance rfl (p_var (i := 0) rfl (.inl rfl) rfl) (p_bltn rfl z.int bt_int (v := .ty "int") rfl) rfl (by rfl) (fun z => nomatch z)) fun _ => (p_one (p_not (p_isin (k := false) z.isinstance rfl (p_var (i := 0) rfl (.inl rfl) rfl) (p_bltn rfl z.bool bt_bool (v := .ty "bool") rfl) rfl (by rfl) (fun z => nomatch z))))) ?_
  rfl
theorem ok_law_share (ht : P.given.tree = none) (d : DefK K mg "_law_share" s_law_share ["_law_top", "_law_bottom"])  : OkF P w K mg base CX0 33 "_law_share" ["_law_top", "_law_bottom"] (spP K 2 C_share) := by
  refine ok_pure d sc_law_share rfl fun f cdv A outer s H E hr ds r hC B hB => ?_
  obtain ⟨t, b, rfl, rfl, h1, h2⟩ := hC
  have py : Pyl (cx0 P w K mg base ["_law_top", "_law_bottom", "_law_one", "_law_other", "_law_rest"] "_law_share" s_law_share f cdv A outer s H E) := (pyl_cx ht rfl rfl hr (Nat.le_refl _)).nox
  have g0 := My.G_pos (a := t) h2
  refine w_set (i := 2) sc_law_share.nd rfl (.inl rfl) (p_var (i := 0) rfl (.inl rfl) rfl) ?_
  refine w_set (i := 3) sc_law_share.nd rfl (.inl rfl) (p_var (i := 1) rfl (.inl rfl) rfl) ?_
  refine w_while PassesOwn.never (fun Γ _ => ∃ (x y : Int) (z : Option D), Γ = [some (.int t), some (.int b), some (.int x), some (.int y), z] ∧ 0 ≤ x ∧ 0 ≤ y ∧ My.G x y = My.G t b) (fun Γ _ => match Γ with | [_, _, _, some (.int y), _] => y.toNat | _ => 0) ⟨t, b, none, rfl, h1, Int.le_of_lt h2, rfl⟩ ?_
  rintro Γ Ω ⟨x, y, z, rfl, hx, hy, hg⟩
  refine ⟨_, (t_cmp (c_gt (p_var (i := 3) rfl (.inl rfl) rfl) p_int)), fun hk => ?_, fun hk => ?_⟩
  · have hk := of_decide_eq_true hk
    refine w_set (i := 4) sc_law_share.nd rfl (.inl rfl) (p_mod (p_var (i := 2) rfl (.inl rfl) rfl) (p_var (i := 3) rfl (.inl rfl) rfl) ?_) ?_
    · exact hk
    refine w_set (i := 2) sc_law_share.nd rfl (.inl rfl) (p_var (i := 3) rfl (.inl rfl) rfl) ?_
    refine w_set (i := 3) sc_law_share.nd rfl (.inl rfl) (p_var (i := 4) rfl (.inl rfl) rfl) ?_
    refine w_nil ⟨⟨y, x % y, _, rfl, hy, (emod_in hk).1, (G_turnE hx hk).trans hg⟩, ?_⟩
    have := emod_in (a := x) hk
    show (x % y).toNat < y.toNat
    omega
  · have hk := of_decide_eq_false hk
    have y0 : y = 0 := by omega
    subst y0
    rw [My.G_end hx] at hg
    subst hg
    refine w_ret (p_tup (pl_cons (p_fdivP py (p_var (i := 0) rfl (.inl rfl) rfl) (p_var (i := 2) rfl (.inl rfl) rfl) ?_) (pl_cons (p_fdivP py (p_var (i := 1) rfl (.inl rfl) rfl) (p_var (i := 2) rfl (.inl rfl) rfl) ?_) pl_nil))) ?_
    · exact g0
    · exact g0
    show D.tup [D.int (t / My.G t b), D.int (b / My.G t b)] = sh (Rat.divInt t b)
    unfold sh
    rw [← My.num_share h2, ← My.den_share h2, Int.fdiv_eq_ediv_of_nonneg _ (Int.le_of_lt g0), Int.fdiv_eq_ediv_of_nonneg _ (Int.le_of_lt g0)]
theorem ok_law_added  (d : DefK K mg "_law_added" s_law_added ["_law_one", "_law_other"]) (o_law_share : OkF P w K mg base CX0 33 "_law_share" ["_law_top", "_law_bottom"] (spP K 2 C_share)) : OkF P w K mg base CX0 34 "_law_added" ["_law_one", "_law_other"] (spP K 2 C_added) := by
  refine ok_pure d sc_law_added rfl fun f cdv A outer s H E hr ds r hC B hB => ?_
  obtain ⟨p, q, m, n, rfl, rfl, hp, hq, s1, s2, l1, l2, -⟩ := hC
  refine w_ret (p_call (d := sh (p + q)) o_law_share (hr.mono (by decide)) rfl (pl_cons (p_add (p_mul (p_ixT (p_var (i := 0) rfl (.inl rfl) rfl) p_int rfl) (p_ixT (p_var (i := 1) rfl (.inl rfl) rfl) p_int rfl) ?_) (p_mul (p_ixT (p_var (i := 1) rfl (.inl rfl) rfl) p_int rfl) (p_ixT (p_var (i := 0) rfl (.inl rfl) rfl) p_int rfl) ?_)) (pl_cons (p_mul (p_ixT (p_var (i := 0) rfl (.inl rfl) rfl) p_int rfl) (p_ixT (p_var (i := 1) rfl (.inl rfl) rfl) p_int rfl) ?_) pl_nil)) ?_) ?_
  · exact fit_nd s1 s2 l1 l2
  · exact fit_nd s2 s1 l2 l1
  · exact fit_dd s1 s2 l1 l2
  · exact ⟨_, _, rfl, by rw [My.q_add], sum_nn hp hq, dd_pos⟩
  · rfl
theorem ok_law_timed  (d : DefK K mg "_law_timed" s_law_timed ["_law_one", "_law_other"]) (o_law_share : OkF P w K mg base CX0 33 "_law_share" ["_law_top", "_law_bottom"] (spP K 2 C_share)) : OkF P w K mg base CX0 34 "_law_timed" ["_law_one", "_law_other"] (spP K 2 C_timed) := by
  refine ok_pure d sc_law_timed rfl fun f cdv A outer s H E hr ds r hC B hB => ?_
  obtain ⟨p, q, m, n, rfl, rfl, hp, hq, s1, s2, l1, l2, -⟩ := hC
  refine w_ret (p_call (d := sh (p * q)) o_law_share (hr.mono (by decide)) rfl (pl_cons (p_mul (p_ixT (p_var (i := 0) rfl (.inl rfl) rfl) p_int rfl) (p_ixT (p_var (i := 1) rfl (.inl rfl) rfl) p_int rfl) ?_) (pl_cons (p_mul (p_ixT (p_var (i := 0) rfl (.inl rfl) rfl) p_int rfl) (p_ixT (p_var (i := 1) rfl (.inl rfl) rfl) p_int rfl) ?_) pl_nil)) ?_) ?_
  · exact fit_nn s1 s2 l1 l2
  · exact fit_dd s1 s2 l1 l2
  · exact ⟨_, _, rfl, by rw [My.q_mul], Int.mul_nonneg (My.q_num_nn hp) (My.q_num_nn hq), dd_pos⟩
  · rfl
theorem ok_law_is_share (z : Zs mg) (d : DefK K mg "_law_is_share" s_law_is_share ["_law_found"]) (o_law_whole : OkF P w K mg base CX0 2 "_law_whole" ["_law_found"] (spP K 1 C_whole)) : OkF P w K mg base CX0 3 "_law_is_share" ["_law_found"] (spP K 1 C_isShare) := by
  refine ok_pure d sc_law_is_share rfl fun f cdv A outer s H E hr ds r hC B hB => ?_
  obtain ⟨q, rfl, rfl, hq⟩ := hC
  refine w_if (PW3.t (tw_or (t_not (t_val (p_isin (k := true) z.isinstance rfl (p_var (i := 0) rfl (.inl rfl) rfl) (p_bltn rfl z.tuple bt_tuple (v := .ty "tuple") rfl) rfl (by rfl) (fun z => nomatch z)))) fun _ => (tw_or1 (t_cmp (c_neI (p_lenT z.len rfl (p_var (i := 0) rfl (.inl rfl) rfl)) p_int))))) ?_ ?_
  · intro h; exact absurd h (by simp)
  · intro _
    refine w_nil ?_
    refine w_ret (p_and (p_call (d := .bl true) o_law_whole (hr.mono (by decide)) rfl (pl_cons (p_ixT (p_var (i := 0) rfl (.inl rfl) rfl) p_int rfl) pl_nil) ?_) fun _ => (p_and (p_call (d := .bl true) o_law_whole (hr.mono (by decide)) rfl (pl_cons (p_ixT (p_var (i := 0) rfl (.inl rfl) rfl) p_int rfl) pl_nil) ?_) fun _ => (p_and (p_cmp (c_ge (p_ixT (p_var (i := 0) rfl (.inl rfl) rfl) p_int rfl) p_int)) fun _ => (p_one (p_cmp (c_ge (p_ixT (p_var (i := 0) rfl (.inl rfl) rfl) p_int rfl) p_int)))))) ?_
    · exact ⟨_, rfl, rfl⟩
    · exact ⟨_, rfl, rfl⟩
    · have n0 := My.q_num_nn hq
      have d0 := My.den_pos' q
      show D.bl (true && (true && (decide (0 ≤ q.num) && decide (1 ≤ (q.den : Int))))) = D.bl true
      rw [decide_eq_true n0, decide_eq_true (show (1 : Int) ≤ q.den by omega)]
      rfl
theorem ok_law_symbols (ht : P.given.tree = none) (z : Zs mg) (d : DefK K mg "_law_symbols" s_law_symbols ["_law_cell", "_law_many"])  : OkF P w K mg base CX0 33 "_law_symbols" ["_law_cell", "_law_many"] (spP K 2 C_symbols) := by
  refine ok_pure d sc_law_symbols rfl fun f cdv A outer s H E hr ds r hC B hB => ?_
  obtain ⟨c, m, rfl, rfl, hm⟩ := hC
  have py : Pyl (cx0 P w K mg base ["_law_cell", "_law_many", "_law_letters", "_law_size", "_law_at", "_law_out", "_law_k", "_law_name", "_law_place", "_law_step"] "_law_symbols" s_law_symbols f cdv A outer s H E) := (pyl_cx ht rfl rfl hr (Nat.le_refl _)).nox
  refine w_set (i := 2) sc_law_symbols.nd rfl (.inl rfl) p_str ?_
  refine w_set (i := 3) sc_law_symbols.nd rfl (.inl rfl) (p_add p_int (p_mod (p_var (i := 0) rfl (.inl rfl) rfl) p_int ?_)) ?_
  · decide
  have p8 : 0 < 1 + c % 8 := by omega
  refine w_set (i := 4) sc_law_symbols.nd rfl (.inl rfl) (p_mod (p_fdivP py (p_var (i := 0) rfl (.inl rfl) rfl) p_int ?_) (p_var (i := 3) rfl (.inl rfl) rfl) ?_) ?_
  · decide
  · exact p8
  refine w_own (i := 5) sc_law_symbols.nd rfl (.inl rfl) (pf_lst pl_nil) fun l => ?_
  refine w_for PassesOwn.never rfl (i_rangeN (n := m) z.range rfl (p_var (i := 1) rfl (.inl rfl) rfl) ?_ ?_) (fun k Γ Ω => ∃ x6 x7 x8 x9, Γ = [some (.int c), some (.int (m : Int)), some (.str letS), some (.int (1 + c % 8)), some (.int (c / 8 % (1 + c % 8))), some (.raw (.ref l)), x6, x7, x8, x9] ∧ Ω = [(l, oLst K (strsD ((List.range k).map (symS c))))]) ?_ ?_ ?_
  · rfl
  · omega
  · exact ⟨_, _, _, _, rfl, rfl⟩
  · rintro k d Γ Ω hd ⟨x6, x7, x8, x9, rfl, rfl⟩
    obtain ⟨hk, rfl⟩ := nums_lt hd
    rw [Nat.zero_add]
    refine ⟨_, (g_name (i := 6) sc_law_symbols.nd rfl (.inl rfl)), ?_⟩
    refine w_set (i := 7) sc_law_symbols.nd rfl (.inl rfl) p_str ?_
    refine w_for PassesOwn.never rfl (i_rangeN (n := szC c) z.range rfl (p_var (i := 3) rfl (.inl rfl) rfl) ?_ ?_) (fun p Γ Ω => ∃ x8 x9, Γ = [some (.int c), some (.int (m : Int)), some (.str letS), some (.int (1 + c % 8)), some (.int (c / 8 % (1 + c % 8))), some (.raw (.ref l)), some (.int (k : Int)), some (.str ⟨(symL c k p).toArray⟩), x8, x9] ∧ Ω = [(l, oLst K (strsD ((List.range k).map (symS c))))]) ?_ ?_ ?_
    · exact (szC_eq c).symm
    · have := szC_in c; omega
    · exact ⟨_, _, rfl, rfl⟩
    · rintro p d Γ Ω hd ⟨x8, x9, rfl, rfl⟩
      obtain ⟨hp, rfl⟩ := nums_lt hd
      rw [Nat.zero_add]
      have hz := szC_in c
      refine ⟨_, (g_name (i := 8) sc_law_symbols.nd rfl (.inl rfl)), ?_⟩
      refine w_set (i := 9) sc_law_symbols.nd rfl (.inl rfl) (p_add (p_mod (p_fdivP py (p_var (i := 0) rfl (.inl rfl) rfl) p_int ?_) p_int ?_) (p_mul p_int (p_var (i := 8) rfl (.inl rfl) rfl) ?_)) ?_
      · decide
      · decide
      · exact mul_small (by omega)
      refine w_if2 (fun Γ Ω => ∃ q : Int, q = (stp c k p : Nat) ∧ Γ = [some (.int c), some (.int (m : Int)), some (.str letS), some (.int (1 + c % 8)), some (.int (c / 8 % (1 + c % 8))), some (.raw (.ref l)), some (.int (k : Int)), some (.str ⟨(symL c k p).toArray⟩), some (.int (p : Int)), some (.int q)] ∧ Ω = [(l, oLst K (strsD ((List.range k).map (symS c))))]) (t_cmp (c_eqI (p_var (i := 8) rfl (.inl rfl) rfl) (p_var (i := 4) rfl (.inl rfl) rfl))) ?_ ?_ ?_
      · intro hk2
        have hk2 := of_decide_eq_true hk2
        refine w_set (i := 9) sc_law_symbols.nd rfl (.inl rfl) (p_add (p_var (i := 9) rfl (.inl rfl) rfl) (p_var (i := 6) rfl (.inl rfl) rfl)) ?_
        refine w_nil ⟨_, ?_, rfl, rfl⟩
        unfold stp
        rw [if_pos (by have := atC_eq c; omega)]
        have := bsC_eq c
        push_cast
        omega
      · intro hk2
        have hk2 := of_decide_eq_false hk2
        refine w_nil ⟨_, ?_, rfl, rfl⟩
        unfold stp
        rw [if_neg (by have := atC_eq c; omega)]
        have := bsC_eq c
        push_cast
        omega
      · rintro Γ Ω ⟨q, hq, rfl, rfl⟩
        refine w_set (i := 7) sc_law_symbols.nd rfl (.inl rfl) (p_catS (p_var (i := 7) rfl (.inl rfl) rfl) (p_ixS (c := lt (stp c k p % 52)) (p_var (i := 2) rfl (.inl rfl) rfl) (p_mod (p_var (i := 9) rfl (.inl rfl) rfl) p_int ?_) ?_ ?_) ?_) ?_
        · decide
        · decide +kernel
        · exact atI_let q hq
        · rw [sizeLine_eq]
          show (symL c k p).toArray.size + 1 ≤ _
          rw [List.size_toArray, symL_len]
          omega
        exact w_nil ⟨_, _, by rw [symL_succ, ← str_snoc]; rfl, rfl⟩
    · rintro Γ Ω ⟨x8, x9, rfl, rfl⟩
      rw [nums_len]
      refine w_append (i := 5) rfl (.inl rfl) rfl (p_var (i := 7) rfl (.inl rfl) rfl) (by rw [strsD_len, List.length_map, List.length_range, sizeLine_eq]; omega) ?_
      refine w_nil ⟨_, _, _, _, rfl, ?_⟩
      rw [List.range_succ, List.map_append]
      unfold strsD
      rw [List.map_append]
      rfl
  · rintro Γ Ω ⟨x6, x7, x8, x9, rfl, rfl⟩
    rw [nums_len]
    refine w_freeze (i := 5) rfl ?_
    refine w_ret (p_var (i := 5) rfl (.inl rfl) rfl) ?_
    rfl
end
end Law
set_option Elab.async false
set_option linter.all false
set_option maxRecDepth 100000
set_option maxHeartbeats 4000000
namespace Law
open PySem L2 L3
section
variable {P : Program} {w : World} {K : PySem.W.Frag} {mg : Str → Option Value} {base : Heap} {C_Grammar C_Sums : Addr}
theorem ok_law_near  (d : DefK K mg "_law_near" s_law_near ["_law_way", "_law_own", "_law_other", "_law_back"]) (o_law_added : OkF P w K mg base CX0 34 "_law_added" ["_law_one", "_law_other"] (spP K 2 C_added)) (o_law_timed : OkF P w K mg base CX0 34 "_law_timed" ["_law_one", "_law_other"] (spP K 2 C_timed)) (o_law_share : OkF P w K mg base CX0 33 "_law_share" ["_law_top", "_law_bottom"] (spP K 2 C_share)) : OkF P w K mg base CX0 36 "_law_near" ["_law_way", "_law_own", "_law_other", "_law_back"] (spP K 4 C_near) := by
  refine ok_pure d sc_law_near rfl fun f cdv A outer s H E hr ds r hC B hB => ?_
  obtain ⟨w', o, t, b, rfl, rfl, hw, ho, ht, hb, hl⟩ := hC
  have big' : big = 67108864 := rfl
  have st := sz_mul hw.2 ht.2
  have sb := sz_mul hw.2 hb.2
  have sa := sz_add ho.2 st
  have nt := q_nn_mul hw.1 ht.1
  have nb := q_nn_mul hw.1 hb.1
  refine w_set (i := 4) sc_law_near.nd rfl (.inl rfl) (p_call (d := sh (o + w' * t)) o_law_added (hr.mono (by decide)) rfl (pl_cons (p_var (i := 1) rfl (.inl rfl) rfl) (pl_cons (p_call (d := sh (w' * t)) o_law_timed (hr.mono (by decide)) rfl (pl_cons (p_var (i := 0) rfl (.inl rfl) rfl) (pl_cons (p_var (i := 2) rfl (.inl rfl) rfl) pl_nil)) ?_) pl_nil)) ?_) ?_
  · exact ⟨w', t, 6, 6, rfl, rfl, hw.1, ht.1, hw.2, ht.2, by decide, by decide, trivial⟩
  · exact ⟨o, w' * t, 6, 12, rfl, rfl, ho.1, nt, ho.2, st, by decide, by decide, trivial⟩
  refine w_set (i := 5) sc_law_near.nd rfl (.inl rfl) (p_call (d := sh (w' * b)) o_law_timed (hr.mono (by decide)) rfl (pl_cons (p_var (i := 0) rfl (.inl rfl) rfl) (pl_cons (p_var (i := 3) rfl (.inl rfl) rfl) pl_nil)) ?_) ?_
  · exact ⟨w', b, 6, 6, rfl, rfl, hw.1, hb.1, hw.2, hb.2, by decide, by decide, trivial⟩
  have n0 : (w' * b).num < ((w' * b).den : Int) := q_lt1.mpr hl
  refine w_set (i := 6) sc_law_near.nd rfl (.inl rfl) (p_call (d := sh (1 - w' * b)) o_law_share (hr.mono (by decide)) rfl (pl_cons (p_sub (p_ixT (p_var (i := 5) rfl (.inl rfl) rfl) p_int rfl) (p_ixT (p_var (i := 5) rfl (.inl rfl) rfl) p_int rfl)) (pl_cons (p_ixT (p_var (i := 5) rfl (.inl rfl) rfl) p_int rfl) pl_nil)) ?_) ?_
  · exact ⟨_, _, rfl, by rw [one_less], by omega, My.den_pos' _⟩
  have p1 : 0 < 1 - w' * b := sub1_pos hl
  have s1 := sz_sub sz_1 sb
  refine w_ret (p_call (d := sh ((o + w' * t) / (1 - w' * b))) o_law_share (hr.mono (by decide)) rfl (pl_cons (p_mul (p_ixT (p_var (i := 4) rfl (.inl rfl) rfl) p_int rfl) (p_ixT (p_var (i := 6) rfl (.inl rfl) rfl) p_int rfl) ?_) (pl_cons (p_mul (p_ixT (p_var (i := 4) rfl (.inl rfl) rfl) p_int rfl) (p_ixT (p_var (i := 6) rfl (.inl rfl) rfl) p_int rfl) ?_) pl_nil)) ?_) ?_
  · exact fit_nd sa s1 (by decide) (by decide)
  · exact mul_fit (den_abs sa) s1.1 (by decide)
  · exact ⟨_, _, rfl, by rw [My.q_div], Int.mul_nonneg (My.q_num_nn (q_nn_add ho.1 nt)) (Int.le_of_lt (My.den_pos' _)), Int.mul_pos (My.den_pos' _) (My.q_num_pos p1)⟩
  rfl
theorem ok_law (ht : P.given.tree = none) (z : Zs mg) (c_Grammar : ClsG K C_Grammar) (c_Sums : ClsS K C_Sums) {f : Addr} {fd : FuncData} (F : Fun K "law" "law" s_law f fd) (o_law_cell_at : OkF P w K mg base CX0 2 "_law_cell_at" ["_law_script", "_law_k"] (spP K 2 C_cell)) (o_law_symbols : OkF P w K mg base CX0 33 "_law_symbols" ["_law_cell", "_law_many"] (spP K 2 C_symbols)) (o_law_share : OkF P w K mg base CX0 33 "_law_share" ["_law_top", "_law_bottom"] (spP K 2 C_share)) (o_law_is_share : OkF P w K mg base CX0 3 "_law_is_share" ["_law_found"] (spP K 1 C_isShare)) (o_law_near : OkF P w K mg base CX0 36 "_law_near" ["_law_way", "_law_own", "_law_other", "_law_back"] (spP K 4 C_near)) (o_Grammar : OkI P w K mg base CX0 36 "Grammar" C_Grammar ["self", "start", "rules"] (spI K 3 C_Grammar C_makes)) (o_Sums : OkI P w K mg base CX0 40 "Sums" C_Sums ["self", "grammar", "row"] (spI K 3 C_Sums (C_sums8 C_Grammar))) (o_Sums_within : OkM P w K mg base CX0 2 C_Sums "within" ["self", "head", "i", "j"] (spP K 4 (C_within C_Sums))) (o_Sums_whole : OkM P w K mg base CX0 3 C_Sums "whole" ["self"] (spP K 1 (C_wholeS C_Sums C_Grammar))) : FnOk P w K mg base CX0 42 f fd ["_law_script"] (spLaw3 K) := by
  refine ok_law3 (k := 41) F sc_law fun cdv A outer s H E hr ns hlen B hB => ?_
  have py : Pyl (cx0 P w K mg base ["_law_script", "_law_names", "_law_parts", "_law_shares", "_law_k", "_law_rules", "_law_grammar", "_law_which", "_law_word", "_law_own", "_law_sums", "_law_one", "_law_two", "_law_longer"] "law" s_law f cdv A outer s H E) := (pyl_cx ht rfl rfl hr (by decide)).nox
  refine w_set (i := 1) sc_law.nd rfl (.inl rfl) (p_call (d := .lst (strsD ((List.range 4).map (symS (ns.getD 0 0))))) o_law_symbols (hr.mono (by decide)) rfl (pl_cons (p_call (d := .int (ns.getD 0 0)) o_law_cell_at (hr.mono (by decide)) rfl (pl_cons (p_var (i := 0) rfl (.inr (.inl rfl)) rfl) (pl_cons p_int pl_nil)) ?_) (pl_cons p_int pl_nil)) ?_) ?_
  · exact ⟨ns, 0, rfl, rfl⟩
  · exact ⟨ns.getD 0 0, 4, rfl, rfl, by decide⟩
  refine w_setC (i := 2) (SX := defScope s_law) (XN := ["_law_script", "_law_names", "_law_parts", "_law_shares", "_law_k", "_law_rules", "_law_grammar", "_law_which", "_law_word", "_law_own", "_law_sums", "_law_one", "_law_two", "_law_longer"]) (N := ["_law_k", "_law_script"]) (nt := 1) (caps := [0]) (pre := (fun i => tb i fun k => .int (1 + ns.getD (1 + k) 0 % 30)))  ⟨rfl, by decide +kernel, by decide +kernel, by decide +kernel, rfl, by decide +kernel⟩ sc_law.nd rfl (.inl rfl)  (i_rangeN (n := 4) z.range rfl p_int ?_ ?_) ?_ ?_ ?_ ?_
  · rfl
  · decide
  · intro i hi; rw [nums_len] at hi; rw [tb_len, sizeLine_eq]; omega
  · rfl
  · intro c i d hd
    obtain ⟨hi, rfl⟩ := nums_lt hd
    refine ⟨_, (g_name (i := 0) (show List.Nodup (α := Str) ["_law_k", "_law_script"] by decide +kernel) rfl (.inl rfl)), (Sub.set rfl), .inl ⟨.int (1 + ns.getD (1 + i) 0 % 30), ts_nil, (p_add p_int (p_mod (p_call (d := .int (ns.getD (1 + i) 0)) o_law_cell_at (hr.mono (by decide)) rfl (pl_cons (p_var (i := 1) rfl (.inr (.inl rfl)) rfl) (pl_cons (p_add p_int (p_var (i := 0) rfl (.inl rfl) rfl)) pl_nil)) ?_) p_int ?_)), ?_⟩⟩
    · refine ⟨ns, 1 + i, ?_, rfl⟩
      rw [Nat.zero_add]
      show [D.scr ns, D.int (1 + (i : Int))] = [D.scr ns, D.int ((1 + i : Nat) : Int)]
      rw [show (1 + (i : Int)) = ((1 + i : Nat) : Int) by omega]
    · decide
    · exact tb_succ
  rw [nums_len]
  generalize hf : (fun k => 1 + ns.getD (1 + k) 0 % 30) = f'
  have hf' : ∀ k, 1 ≤ f' k ∧ f' k ≤ 30 := fun k => by
    rw [← hf]
    have := emod_in (a := ns.getD (1 + k) 0) (show (0 : Int) < 30 by decide)
    dsimp only
    omega
  have ef : (tb 4 fun k => D.int (1 + ns.getD (1 + k) 0 % 30)) = tb 4 fun k => D.int (f' k) := by rw [← hf]
  rw [ef]
  refine w_own (i := 3) sc_law.nd rfl (.inl rfl) (pf_lst pl_nil) fun l => ?_
  refine w_for PassesOwn.never rfl (i_rangeN (n := 4) z.range rfl p_int ?_ ?_) (fun i Γ Ω => ∃ x4, Γ = [some (.scr ns), some (.lst (strsD ((List.range 4).map (symS (ns.getD 0 0))))), some (.lst (tb 4 fun k => .int (f' k))), some (.raw (.ref l)), x4, none, none, none, none, none, none, none, none, none] ∧ Ω = [(l, oLst K (tb i fun k => sh (Rat.divInt (f' k) (f' (k / 2 * 2) + f' (k / 2 * 2 + 1)))))]) ?_ ?_ ?_
  · rfl
  · decide
  · exact ⟨_, rfl, rfl⟩
  · rintro i d Γ Ω hd ⟨x4, rfl, rfl⟩
    obtain ⟨hi, rfl⟩ := nums_lt hd
    rw [Nat.zero_add]
    have h1 := hf' i
    have h2 := hf' (i / 2 * 2)
    have h3 := hf' (i / 2 * 2 + 1)
    have e2 : (i : Int) / 2 * 2 = ((i / 2 * 2 : Nat) : Int) := by omega
    refine ⟨_, (g_name (i := 4) sc_law.nd rfl (.inl rfl)), ?_⟩
    refine w_append (i := 3) rfl (.inl rfl) rfl (p_call (d := sh (Rat.divInt (f' i) (f' (i / 2 * 2) + f' (i / 2 * 2 + 1)))) o_law_share (hr.mono (by decide)) rfl (pl_cons (p_ixL (d := .int (f' i)) (p_var (i := 2) rfl (.inl rfl) rfl) (p_var (i := 4) rfl (.inl rfl) rfl) ?_) (pl_cons (p_add (p_ixL (d := .int (f' (i / 2 * 2))) (p_var (i := 2) rfl (.inl rfl) rfl) (p_mul (p_fdivP py (p_var (i := 4) rfl (.inl rfl) rfl) p_int ?_) p_int ?_) ?_) (p_ixL (d := .int (f' (i / 2 * 2 + 1))) (p_var (i := 2) rfl (.inl rfl) rfl) (p_add (p_mul (p_fdivP py (p_var (i := 4) rfl (.inl rfl) rfl) p_int ?_) p_int ?_) p_int) ?_)) pl_nil)) ?_) ?_ ?_
    · exact atI_tb hi
    · decide
    · exact mul_fit (m := 3) (n := 2) (by omega) (by decide) (by decide)
    · rw [e2]; exact atI_tb (by omega)
    · decide
    · exact mul_fit (m := 3) (n := 2) (by omega) (by decide) (by decide)
    · rw [e2, show ((i / 2 * 2 : Nat) : Int) + 1 = ((i / 2 * 2 + 1 : Nat) : Int) by omega]; exact atI_tb (by omega)
    · exact ⟨_, _, rfl, rfl, by omega, by omega⟩
    · rw [tb_len, sizeLine_eq]; omega
    · refine w_nil ⟨_, rfl, ?_⟩
      rw [tb_succ]
      rfl
  · rintro Γ Ω ⟨x4, rfl, rfl⟩
    rw [nums_len]
    refine w_freeze (i := 3) rfl ?_
    have q0 := half_sz (hf' 0) (hf' 1)
    have q1 := half_sz (hf' 1) (hf' 0)
    have q2 := half_sz (hf' 2) (hf' 3)
    have q3 := half_sz (hf' 3) (hf' 2)
    rw [Int.add_comm] at q1 q3
    have o1 := half_one (hf' 0).1 (hf' 1).1
    have o2 := half_one (hf' 2).1 (hf' 3).1
    have es : (tb 4 fun k => sh (Rat.divInt (f' k) (f' (k / 2 * 2) + f' (k / 2 * 2 + 1)))) = [sh (Rat.divInt (f' 0) (f' 0 + f' 1)), sh (Rat.divInt (f' 1) (f' 0 + f' 1)), sh (Rat.divInt (f' 2) (f' 2 + f' 3)), sh (Rat.divInt (f' 3) (f' 2 + f' 3))] := rfl
    rw [es]
    have d4 : D4 (symS (ns.getD 0 0) 0) (symS (ns.getD 0 0) 1) (symS (ns.getD 0 0) 2) (symS (ns.getD 0 0) 3) := by
      constructor <;> exact fun e => absurd (sym_inj (by decide) (by decide) e) (by decide)
    have hA := sym_is (ns.getD 0 0) 0
    have hB' := sym_is (ns.getD 0 0) 1
    have hx := sym_is (ns.getD 0 0) 2
    have hy := sym_is (ns.getD 0 0) 3
    have en : strsD ((List.range 4).map (symS (ns.getD 0 0))) = [.str (symS (ns.getD 0 0) 0), .str (symS (ns.getD 0 0) 1), .str (symS (ns.getD 0 0) 2), .str (symS (ns.getD 0 0) 3)] := rfl
    rw [en]
    generalize symS (ns.getD 0 0) 0 = A' at *
    generalize symS (ns.getD 0 0) 1 = B' at *
    generalize symS (ns.getD 0 0) 2 = x at *
    generalize symS (ns.getD 0 0) 3 = y at *
    generalize Rat.divInt (f' 0) (f' 0 + f' 1) = p0 at *
    generalize Rat.divInt (f' 1) (f' 0 + f' 1) = p1 at *
    generalize Rat.divInt (f' 2) (f' 2 + f' 3) = p2 at *
    generalize Rat.divInt (f' 3) (f' 2 + f' 3) = p3 at *
    have pp : P4' p0 p1 p2 p3 := ⟨q0.1, q1.1, q2.1, q3.1, o1, o2, q0.2, q1.2, q2.2, q3.2⟩
    have gv := gv8 d4 pp hA hB' hx hy
    refine w_set (i := 5) sc_law.nd rfl (.inl rfl) (p_lst (pl_cons (p_tup (pl_cons (p_ixL (d := .str A') (p_var (i := 1) rfl (.inl rfl) rfl) p_int ?_) (pl_cons (p_tup (pl_cons (p_ixL (d := .str B') (p_var (i := 1) rfl (.inl rfl) rfl) p_int ?_) pl_nil)) (pl_cons (p_ixL (d := sh p0) (p_var (i := 3) rfl (.inl rfl) rfl) p_int ?_) pl_nil)))) (pl_cons (p_tup (pl_cons (p_ixL (d := .str A') (p_var (i := 1) rfl (.inl rfl) rfl) p_int ?_) (pl_cons (p_tup (pl_cons (p_ixL (d := .str x) (p_var (i := 1) rfl (.inl rfl) rfl) p_int ?_) pl_nil)) (pl_cons (p_ixL (d := sh p1) (p_var (i := 3) rfl (.inl rfl) rfl) p_int ?_) pl_nil)))) pl_nil))) ?_
    · rfl
    · rfl
    · rfl
    · rfl
    · rfl
    · rfl
    refine w_set (i := 5) sc_law.nd rfl (.inl rfl) (p_cat (p_var (i := 5) rfl (.inl rfl) rfl) (p_lst (pl_cons (p_tup (pl_cons (p_ixL (d := .str B') (p_var (i := 1) rfl (.inl rfl) rfl) p_int ?_) (pl_cons (p_tup (pl_cons (p_ixL (d := .str A') (p_var (i := 1) rfl (.inl rfl) rfl) p_int ?_) pl_nil)) (pl_cons (p_ixL (d := sh p2) (p_var (i := 3) rfl (.inl rfl) rfl) p_int ?_) pl_nil)))) (pl_cons (p_tup (pl_cons (p_ixL (d := .str B') (p_var (i := 1) rfl (.inl rfl) rfl) p_int ?_) (pl_cons (p_tup (pl_cons (p_ixL (d := .str y) (p_var (i := 1) rfl (.inl rfl) rfl) p_int ?_) pl_nil)) (pl_cons (p_ixL (d := sh p3) (p_var (i := 3) rfl (.inl rfl) rfl) p_int ?_) pl_nil)))) pl_nil))) ?_) ?_
    · rfl
    · rfl
    · rfl
    · rfl
    · rfl
    · rfl
    · show 4 ≤ sizeLine; decide
    refine w_set (i := 6) sc_law.nd rfl (.inl rfl) (p_make (r := (gF, gDs A' (R8 A' B' x y p0 p1 p2 p3))) o_Grammar (hr.mono (by decide)) rfl (pl_cons (p_ixL (d := .str A') (p_var (i := 1) rfl (.inl rfl) rfl) p_int ?_) (pl_cons (p_var (i := 5) rfl (.inl rfl) rfl) pl_nil)) ?_) ?_
    · rfl
    · exact ⟨A', R8 A' B' x y p0 p1 p2 p3, rfl, rfl, gv⟩
    refine w_set (i := 7) sc_law.nd rfl (.inl rfl) (p_mod (p_call (d := .int (ns.getD 5 0)) o_law_cell_at (hr.mono (by decide)) rfl (pl_cons (p_var (i := 0) rfl (.inr (.inl rfl)) rfl) (pl_cons p_int pl_nil)) ?_) p_int ?_) ?_
    · exact ⟨ns, 5, rfl, rfl⟩
    · decide
    have hw : ns.getD 5 0 % 2 = 0 ∨ ns.getD 5 0 % 2 = 1 := by have := emod_in (a := ns.getD 5 0) (show (0 : Int) < 2 by decide); omega
    obtain ⟨wd, eA, eB, ho, i1, i2⟩ : ∃ wd eA eB, Own x y p1 p3 wd eA eB ∧ atI [D.str A', .str B', .str x, .str y] (2 + ns.getD 5 0 % 2) = some (.str wd) ∧ atI [D.lst [sh p1, sh 0], .lst [sh 0, sh p3]] (ns.getD 5 0 % 2) = some (.lst [sh eA, sh eB]) := by
      rcases hw with h | h
      · exact ⟨x, p1, 0, .inl ⟨rfl, rfl, rfl⟩, by rw [h]; rfl, by rw [h]; rfl⟩
      · exact ⟨y, 0, p3, .inr ⟨rfl, rfl, rfl⟩, by rw [h]; rfl, by rw [h]; rfl⟩
    obtain ⟨ka, kb⟩ := own_nn pp ho
    obtain ⟨g1, g2⟩ := get1 d4 pp ho
    obtain ⟨g3, g4, g5⟩ := get2 d4 pp ho
    have hlt := pq_lt pp
    have hp := sub1_pos hlt
    refine w_set (i := 8) sc_law.nd rfl (.inl rfl) (p_ixL (d := .str wd) (p_var (i := 1) rfl (.inl rfl) rfl) (p_add p_int (p_var (i := 7) rfl (.inl rfl) rfl)) ?_) ?_
    · exact i1
    refine w_set (i := 9) sc_law.nd rfl (.inl rfl) (p_ixL (d := .lst [sh eA, sh eB]) (p_lst (pl_cons (p_lst (pl_cons (p_ixL (d := sh p1) (p_var (i := 3) rfl (.inl rfl) rfl) p_int ?_) (pl_cons (p_eq (d := sh 0) (p_tup (pl_cons p_int (pl_cons p_int pl_nil))) rfl) pl_nil))) (pl_cons (p_lst (pl_cons (p_eq (d := sh 0) (p_tup (pl_cons p_int (pl_cons p_int pl_nil))) rfl) (pl_cons (p_ixL (d := sh p3) (p_var (i := 3) rfl (.inl rfl) rfl) p_int ?_) pl_nil))) pl_nil))) (p_var (i := 7) rfl (.inl rfl) rfl) ?_) ?_
    · rfl
    · rfl
    · exact i2
    refine w_set (i := 10) sc_law.nd rfl (.inl rfl) (p_make (r := (sF, sDs C_Grammar A' (R8 A' B' x y p0 p1 p2 p3) [wd])) o_Sums (hr.mono (by decide)) rfl (pl_cons (p_var (i := 6) rfl (.inl rfl) rfl) (pl_cons (p_tup (pl_cons (p_var (i := 8) rfl (.inl rfl) rfl) pl_nil)) pl_nil)) ?_) ?_
    · exact ⟨A', R8 A' B' x y p0 p1 p2 p3, [wd], 6, rfl, rfl, sumOk8 d4 pp (by simp)⟩
    refine w_set (i := 11) sc_law.nd rfl (.inl rfl) (p_meth (d := sh ((eA + p0 * eB) / (1 - p0 * p2))) o_Sums_within c_Sums.c (hr.mono (by decide)) (p_var (i := 10) rfl (.inl rfl) rfl) nm_Sums_within (pl_cons (p_ixL (d := .str A') (p_var (i := 1) rfl (.inl rfl) rfl) p_int ?_) (pl_cons p_int (pl_cons p_int pl_nil))) ?_) ?_
    · rfl
    · exact ⟨_, _, _, _, _, _, knOf (R8 A' B' x y p0 p1 p2 p3) [wd], A', 0, 1, rfl, by rw [g1]⟩
    refine w_set (i := 12) sc_law.nd rfl (.inl rfl) (p_meth (d := sh ((eB + p2 * eA) / (1 - p0 * p2))) o_Sums_within c_Sums.c (hr.mono (by decide)) (p_var (i := 10) rfl (.inl rfl) rfl) nm_Sums_within (pl_cons (p_ixL (d := .str B') (p_var (i := 1) rfl (.inl rfl) rfl) p_int ?_) (pl_cons p_int (pl_cons p_int pl_nil))) ?_) ?_
    · rfl
    · exact ⟨_, _, _, _, _, _, knOf (R8 A' B' x y p0 p1 p2 p3) [wd], B', 0, 1, rfl, by rw [g2]⟩
    have nA : 0 ≤ (eA + p0 * eB) / (1 - p0 * p2) := q_nn_div (q_nn_add ka.1 (q_nn_mul (Rat.le_of_lt pp.g0) kb.1)) hp
    have nB : 0 ≤ (eB + p2 * eA) / (1 - p0 * p2) := q_nn_div (q_nn_add kb.1 (q_nn_mul (Rat.le_of_lt pp.g2) ka.1)) hp
    refine w_if (PW3.t (tw_or (t_not (t_val (p_call (d := .bl true) o_law_is_share (hr.mono (by decide)) rfl (pl_cons (p_var (i := 11) rfl (.inl rfl) rfl) pl_nil) ?_))) fun _ => (tw_or (t_not (t_val (p_call (d := .bl true) o_law_is_share (hr.mono (by decide)) rfl (pl_cons (p_var (i := 12) rfl (.inl rfl) rfl) pl_nil) ?_))) fun _ => (tw_or1 (t_cmp (c_ne hr.units (p_meth0 (d := sh ((eA + p0 * eB) / (1 - p0 * p2))) o_Sums_whole c_Sums.c (hr.mono (by decide)) (p_var (i := 10) rfl (.inl rfl) rfl) nm_Sums_whole ?_) (p_var (i := 11) rfl (.inl rfl) rfl) kin_sh dep_sh)))))) ?_ ?_
    · exact ⟨_, rfl, rfl, nA⟩
    · exact ⟨_, rfl, rfl, nB⟩
    · exact ⟨A', R8 A' B' x y p0 p1 p2 p3, [wd], _, _, _, _, knOf (R8 A' B' x y p0 p1 p2 p3) [wd], rfl, by rw [show ([wd] : List Str).length = 1 from rfl, g1]⟩
    · intro hk
      rw [beq_sh] at hk
      simp at hk
    · intro _
      refine w_nil ?_
      refine w_if (t_cmp (c_ne hr.units (p_var (i := 11) rfl (.inl rfl) rfl) (p_call (d := sh ((eA + p0 * eB) / (1 - p0 * p2))) o_law_near (hr.mono (by decide)) rfl (pl_cons (p_ixL (d := sh p0) (p_var (i := 3) rfl (.inl rfl) rfl) p_int ?_) (pl_cons (p_ixL (d := sh eA) (p_var (i := 9) rfl (.inl rfl) rfl) p_int ?_) (pl_cons (p_ixL (d := sh eB) (p_var (i := 9) rfl (.inl rfl) rfl) p_int ?_) (pl_cons (p_ixL (d := sh p2) (p_var (i := 3) rfl (.inl rfl) rfl) p_int ?_) pl_nil)))) ?_) kin_sh dep_sh)) ?_ ?_
      · rfl
      · rfl
      · rfl
      · rfl
      · exact ⟨p0, eA, eB, p2, rfl, rfl, ⟨Rat.le_of_lt pp.g0, pp.s0⟩, ka, kb, ⟨Rat.le_of_lt pp.g2, pp.s2⟩, hlt⟩
      · intro hk
        rw [beq_sh] at hk
        simp at hk
      · intro _
        refine w_nil ?_
        refine w_if (t_cmp (c_ne hr.units (p_var (i := 12) rfl (.inl rfl) rfl) (p_call (d := sh ((eB + p2 * eA) / (1 - p0 * p2))) o_law_near (hr.mono (by decide)) rfl (pl_cons (p_ixL (d := sh p2) (p_var (i := 3) rfl (.inl rfl) rfl) p_int ?_) (pl_cons (p_ixL (d := sh eB) (p_var (i := 9) rfl (.inl rfl) rfl) p_int ?_) (pl_cons (p_ixL (d := sh eA) (p_var (i := 9) rfl (.inl rfl) rfl) p_int ?_) (pl_cons (p_ixL (d := sh p0) (p_var (i := 3) rfl (.inl rfl) rfl) p_int ?_) pl_nil)))) ?_) kin_sh dep_sh)) ?_ ?_
        · rfl
        · rfl
        · rfl
        · rfl
        · exact ⟨p2, eB, eA, p0, rfl, by rw [Rat.mul_comm p2 p0], ⟨Rat.le_of_lt pp.g2, pp.s2⟩, kb, ka, ⟨Rat.le_of_lt pp.g0, pp.s0⟩, by rw [Rat.mul_comm]; exact hlt⟩
        · intro hk
          rw [beq_sh] at hk
          simp at hk
        · intro _
          refine w_nil ?_
          refine w_set (i := 13) sc_law.nd rfl (.inl rfl) (p_make (r := (sF, sDs C_Grammar A' (R8 A' B' x y p0 p1 p2 p3) [wd, wd])) o_Sums (hr.mono (by decide)) rfl (pl_cons (p_var (i := 6) rfl (.inl rfl) rfl) (pl_cons (p_tup (pl_cons (p_var (i := 8) rfl (.inl rfl) rfl) (pl_cons (p_var (i := 8) rfl (.inl rfl) rfl) pl_nil))) pl_nil)) ?_) ?_
          · exact ⟨A', R8 A' B' x y p0 p1 p2 p3, [wd, wd], 6, rfl, rfl, sumOk8 d4 pp (by simp)⟩
          refine w_ret (p_and (p_cmp (c_eq hr.units (p_meth0 (d := sh 0) o_Sums_whole c_Sums.c (hr.mono (by decide)) (p_var (i := 13) rfl (.inl rfl) rfl) nm_Sums_whole ?_) (p_eq (d := sh 0) (p_tup (pl_cons p_int (pl_cons p_int pl_nil))) rfl) kin_sh dep_sh)) fun _ => (p_and (p_cmp (c_eq hr.units (p_meth (d := sh 0) o_Sums_within c_Sums.c (hr.mono (by decide)) (p_var (i := 13) rfl (.inl rfl) rfl) nm_Sums_within (pl_cons (p_ixL (d := .str B') (p_var (i := 1) rfl (.inl rfl) rfl) p_int ?_) (pl_cons p_int (pl_cons p_int pl_nil))) ?_) (p_eq (d := sh 0) (p_tup (pl_cons p_int (pl_cons p_int pl_nil))) rfl) kin_sh dep_sh)) fun _ => (p_one (p_cmp (c_eq hr.units (p_meth (d := sh ((eB + p2 * eA) / (1 - p0 * p2))) o_Sums_within c_Sums.c (hr.mono (by decide)) (p_var (i := 13) rfl (.inl rfl) rfl) nm_Sums_within (pl_cons (p_ixL (d := .str B') (p_var (i := 1) rfl (.inl rfl) rfl) p_int ?_) (pl_cons p_int (pl_cons p_int pl_nil))) ?_) (p_var (i := 12) rfl (.inl rfl) rfl) kin_sh dep_sh))))) ?_
          · exact ⟨A', R8 A' B' x y p0 p1 p2 p3, [wd, wd], _, _, _, _, knOf (R8 A' B' x y p0 p1 p2 p3) [wd, wd], rfl, by rw [show ([wd, wd] : List Str).length = 2 from rfl, g3]⟩
          · rfl
          · exact ⟨_, _, _, _, _, _, knOf (R8 A' B' x y p0 p1 p2 p3) [wd, wd], B', 0, 2, rfl, by rw [g4]⟩
          · rfl
          · exact ⟨_, _, _, _, _, _, knOf (R8 A' B' x y p0 p1 p2 p3) [wd, wd], B', 1, 2, rfl, by rw [g5]⟩
          show D.bl (beqD (sh 0) (sh 0) && (beqD (sh 0) (sh 0) && beqD (sh ((eB + p2 * eA) / (1 - p0 * p2))) (sh ((eB + p2 * eA) / (1 - p0 * p2))))) = D.bl true
          rw [beq_sh, beq_sh]
          simp
theorem law_all (ht : P.given.tree = none) (z : Zs mg) (g_NOUGHT : GlobD K mg "NOUGHT" (sh 0)) (g_ONE : GlobD K mg "ONE" (sh 1)) (g_MOST_RULES : GlobD K mg "MOST_RULES" (.int 30)) (g_MOST_SYMBOLS : GlobD K mg "MOST_SYMBOLS" (.int 4)) (g_MOST_LETTERS : GlobD K mg "MOST_LETTERS" (.int 8)) (c_Grammar : ClsG K C_Grammar) (d_Grammar : InitK K mg "Grammar" C_Grammar "Grammar.__init__" s_Grammar___init__ ["self", "start", "rules"]) (d_Grammar_start : MethK K C_Grammar "start" "Grammar.start" s_Grammar_start ["self"]) (d_Grammar_rules : MethK K C_Grammar "rules" "Grammar.rules" s_Grammar_rules ["self"]) (d_Grammar_heads : MethK K C_Grammar "heads" "Grammar.heads" s_Grammar_heads ["self"]) (d_Grammar_live : MethK K C_Grammar "live" "Grammar.live" s_Grammar_live ["self"]) (c_Sums : ClsS K C_Sums) (d_Sums : InitK K mg "Sums" C_Sums "Sums.__init__" s_Sums___init__ ["self", "grammar", "row"]) (d_Sums_within : MethK K C_Sums "within" "Sums.within" s_Sums_within ["self", "head", "i", "j"]) (d_Sums_whole : MethK K C_Sums "whole" "Sums.whole" s_Sums_whole ["self"]) (d_Sums_settle : MethK K C_Sums "settle" "Sums.settle" s_Sums_settle ["self", "i", "j"]) (d_Sums_ends_at : MethK K C_Sums "ends_at" "Sums.ends_at" s_Sums_ends_at ["self", "i", "j"]) (d_Sums_worth : MethK K C_Sums "worth" "Sums.worth" s_Sums_worth ["self", "symbol", "i", "j"]) (d_Sums_worth_of_body : MethK K C_Sums "worth_of_body" "Sums.worth_of_body" s_Sums_worth_of_body ["self", "body", "i", "j"]) (d_common_divisor : DefK K mg "common_divisor" s_common_divisor ["one", "other"]) (d_share : DefK K mg "share" s_share ["top", "bottom"]) (d_added : DefK K mg "added" s_added ["one", "other"]) (d_is_less : DefK K mg "is_less" s_is_less ["one", "other"]) (d_lessened : DefK K mg "lessened" s_lessened ["one", "other"]) (d_timed : DefK K mg "timed" s_timed ["one", "other"]) (d_parted : DefK K mg "parted" s_parted ["one", "other"]) (d_sum_of_products : DefK K mg "sum_of_products" s_sum_of_products ["pairs"]) (d_cleared : DefK K mg "cleared" s_cleared ["row", "k"]) (d_without_itself : DefK K mg "without_itself" s_without_itself ["row", "k"]) (d_put_in : DefK K mg "put_in" s_put_in ["row", "k", "found"]) (d_solved_rows : DefK K mg "solved_rows" s_solved_rows ["ways", "ends"]) (d_check_rules : DefK K mg "check_rules" s_check_rules ["rules"]) (d_check_rule : DefK K mg "check_rule" s_check_rule ["rule"]) (d_check_symbol : DefK K mg "check_symbol" s_check_symbol ["text"]) (d_is_symbol : DefK K mg "is_symbol" s_is_symbol ["text"]) (d_is_letter : DefK K mg "is_letter" s_is_letter ["sign"]) (d_check_start : DefK K mg "check_start" s_check_start ["start", "heads"]) (d_check_sums : DefK K mg "check_sums" s_check_sums ["heads", "rules"]) (d_heads_of : DefK K mg "heads_of" s_heads_of ["rules"]) (d_live_of : DefK K mg "live_of" s_live_of ["heads", "rules"]) (d_has_live_body : DefK K mg "has_live_body" s_has_live_body ["head", "rules", "heads", "live"]) (d_is_live_body : DefK K mg "is_live_body" s_is_live_body ["body", "heads", "live"]) (d_stretches : DefK K mg "stretches" s_stretches ["row"]) (d_live_rules : DefK K mg "live_rules" s_live_rules ["grammar"]) (d_is_step : DefK K mg "is_step" s_is_step ["rule", "heads"]) (d_chains_of : DefK K mg "chains_of" s_chains_of ["heads", "steps"]) (d_law_cell_at : DefK K mg "_law_cell_at" s_law_cell_at ["_law_script", "_law_k"]) (d_law_whole : DefK K mg "_law_whole" s_law_whole ["_law_found"]) (d_law_symbols : DefK K mg "_law_symbols" s_law_symbols ["_law_cell", "_law_many"]) (d_law_share : DefK K mg "_law_share" s_law_share ["_law_top", "_law_bottom"]) (d_law_added : DefK K mg "_law_added" s_law_added ["_law_one", "_law_other"]) (d_law_timed : DefK K mg "_law_timed" s_law_timed ["_law_one", "_law_other"]) (d_law_is_share : DefK K mg "_law_is_share" s_law_is_share ["_law_found"]) (d_law_near : DefK K mg "_law_near" s_law_near ["_law_way", "_law_own", "_law_other", "_law_back"]) {f : Addr} {fd : FuncData} (F : Fun K "law" "law" s_law f fd) : FnOk P w K mg base CX0 42 f fd ["_law_script"] (spLaw3 K) := by
  have q1 := ok_common_divisor (P := P) (w := w) (base := base) d_common_divisor
  have q1s := ok_share ht d_share q1
  have q2 := ok_added ht d_added q1
  have s4 := ok_is_less (P := P) (w := w) (base := base) d_is_less
  have s5 := ok_lessened d_lessened q1s s4
  have s6 := ok_timed d_timed q1s
  have s7 := ok_parted g_NOUGHT d_parted s6
  have s8 := ok_cleared (P := P) (w := w) (base := base) g_NOUGHT d_cleared
  have s9 := ok_without_itself z g_NOUGHT g_ONE d_without_itself s4 s5 s7 s8
  have s10 := ok_put_in z g_NOUGHT d_put_in q2 s6 s8
  have s11 := ok_solved_rows z d_solved_rows s9 s10
  have q3 := ok_is_letter (P := P) (w := w) (base := base) d_is_letter
  have q3b := ok_is_symbol z g_MOST_LETTERS d_is_symbol q3
  have q4 := ok_check_symbol z g_MOST_LETTERS d_check_symbol q3b
  have q5 := ok_check_rule z g_NOUGHT g_MOST_SYMBOLS d_check_rule q4
  have q6 := ok_check_rules z g_MOST_RULES d_check_rules q5
  have q7 := ok_check_start (P := P) (w := w) (base := base) d_check_start
  have q8 := ok_check_sums g_NOUGHT g_ONE d_check_sums q2
  have q9 := ok_heads_of (P := P) (w := w) (base := base) d_heads_of
  have q10 := ok_is_live_body (P := P) (w := w) (base := base) z d_is_live_body
  have q11 := ok_has_live_body z d_has_live_body q10
  have q12 := ok_live_of z d_live_of q11
  have q13 := ok_Grammar z c_Grammar d_Grammar q6 q9 q7 q8 q12
  have q14 := ok_Grammar_start (mg := mg) (P := P) (w := w) (base := base) c_Grammar d_Grammar_start
  have q15 := ok_Grammar_rules (P := P) (w := w) (base := base) z c_Grammar d_Grammar_rules
  have q16 := ok_Grammar_heads (P := P) (w := w) (base := base) z c_Grammar d_Grammar_heads
  have q17 := ok_Grammar_live (P := P) (w := w) (base := base) z c_Grammar d_Grammar_live
  have u1 := ok_sum_of_products ht g_NOUGHT d_sum_of_products q1 q1s
  have u2 := ok_stretches (P := P) (w := w) (base := base) z d_stretches
  have u3 := ok_live_rules c_Grammar d_live_rules q16 q17 q15 q10
  have u4 := ok_is_step (P := P) (w := w) (base := base) z d_is_step
  have u5 := ok_chains_of z g_NOUGHT g_ONE d_chains_of s11
  have u6 := ok_Sums_within (P := P) (w := w) (base := base) c_Sums g_NOUGHT d_Sums_within
  have u7 := ok_Sums_whole z c_Sums c_Grammar d_Sums_whole u6 q14
  have u8 := ok_Sums_worth c_Sums g_NOUGHT g_ONE d_Sums_worth u6
  have u9 := ok_Sums_worth_of_body z c_Sums d_Sums_worth_of_body u8
  have u10 := ok_Sums_ends_at c_Sums g_NOUGHT d_Sums_ends_at u9 q2 s6
  have u11 := ok_Sums_settle c_Sums g_NOUGHT d_Sums_settle u10 u1
  have u12 := ok_Sums z c_Sums c_Grammar d_Sums q17 u3 q16 u4 u5 u2 u11
  have r1 := ok_law_cell_at (P := P) (w := w) (base := base) z d_law_cell_at
  have r2 := ok_law_whole (P := P) (w := w) (base := base) z d_law_whole
  have r3 := ok_law_share (w := w) (base := base) ht d_law_share
  have r4 := ok_law_added d_law_added r3
  have r5 := ok_law_timed d_law_timed r3
  have r6 := ok_law_is_share z d_law_is_share r2
  have r7 := ok_law_near d_law_near r4 r5 r3
  have r9 := ok_law_symbols (w := w) (base := base) ht z d_law_symbols
  exact ok_law ht z c_Grammar c_Sums F r1 r9 r3 r6 r7 q13 u12 u6 u7
end
end Law
set_option Elab.async false
set_option linter.all false
set_option maxRecDepth 100000
set_option maxHeartbeats 4000000
namespace Law
open PySem L2 L3
end Law
namespace Law
open PySem L2 L3
theorem walk {l : PySem.W.OpenLaw} {q : Program} {loose : List Str} {XP : (Str → Option Value) → Heap → Prop} {YP : World → Heap → Prop} {d : DefRec} {K : Params → PySem.W.Frag} (hn : l.most = some 63) (hi : PyProof.Rows.importsNone q = true) (hdf : d.params.defaults = [])
    (hY : ∀ (w : World) (h : Heap), YP w h → (K w.params).In h)
    (F : ∀ (w : World) (mg : Str → Option Value) (fa : Addr) (h : Heap), (K w.params).In h → h.Ns mainGlobals mg → mg d.name = some (.ref fa) →
      ∃ fd : FuncData, (∀ (s : Shared) (u : Value), BindsTo s fd ⟨[u], []⟩ [("_law_script", u)]) ∧ ∀ base : Heap, (K w.params).In base → base.Ns mainGlobals mg → FnOk l.prog w (K w.params) mg base CX0 42 fa fd ["_law_script"] (spLaw3 (K w.params))) :
    PySem.W.WalkO q loose XP YP l.row.toRowW d [] (fun f vs => PySem.call f vs) :=
  L2.walk_of (n := 63) (k := 42) (x := "_law_script") (CX := fun _ => CX0) (sp := fun w => spLaw3 (K w.params)) hn (by decide) hi hdf ⟨rfl, by decide, by decide⟩ hY F (fun _ _ a ns hl _ hS => sp_law3 hl hS) fun _ _ _ _ _ z => z
end Law
open PySem PySem.W PyProof.Rows
set_option maxRecDepth 100000 in
set_option maxHeartbeats 0 in
theorem PySem.Challenge.cw_scoreflow_k08_rings_of_two_holds : PySem.Challenge.rw_scoreflow_k08_rings_of_two.Holds := by
  w_on; o_law
  refine PySem.W.holds_open (q := Law.view) (loose := []) (Xt := fun s => PySem.W.xlAt Law.view [] s && PySem.W.recOk [] s) (XP := PySem.W.XL Law.view [])
    (Yf := (PySem.W.kHook Law.KP Law.KA Law.KE).obs) (Ya := (PySem.W.kHook Law.KP Law.KA Law.KE).val) (YP := (PySem.W.kHook Law.KP Law.KA Law.KE).says) (N := 12 + (1 + (1100 + 4000))) Law.hl (PySem.W.kHook Law.KP Law.KA Law.KE).of (PySem.W.kHook Law.KP Law.KA Law.KE).keeps
    (fun s e => PySem.W.xl_of s (Bool.and_eq_true_iff.mp e).1) PySem.W.XL.keeps (by rfl) (by rfl) (by rfl) (fun s e => PySem.W.recFacts_of (Bool.and_eq_true_iff.mp e).2) ?d4 ?d5 ?d6 ⟨rfl, rfl, rfl, rfl, rfl, by decide +kernel⟩ ?hw ?hc
  case d4 => rfl
  case d5 => first | assumption | decide +kernel
  case d6 => decide +kernel
  case hw => w_witness2
  k_fill
  refine Law.walk (l := PySem.Challenge.rw_scoreflow_k08_rings_of_two) rfl ?hi rfl (fun w h Y => PySem.W.kIn_of Y) ?F
  case hi => decide +kernel
  case F =>
    intro w mg fa h KX G hmg
    have d_common_divisor : L2.DefK (L2.KOf KX) mg "common_divisor" Law.s_common_divisor ["one", "other"] := by
      dsimp only [L2.KOf]
      refine' L2.def_mk KX G ["one", "other"] ?a ?l ?c ?k ?b
      (case a => k_is); (case l => k_is); (case c => k_is); (case k => k_is)
      (case b => intro _ _ _ _ _ _ us hl; obtain ⟨_, _, rfl⟩ := L3.len2 hl; rfl)
    have d_share : L2.DefK (L2.KOf KX) mg "share" Law.s_share ["top", "bottom"] := by
      dsimp only [L2.KOf]
      refine' L2.def_mk KX G ["top", "bottom"] ?a ?l ?c ?k ?b
      (case a => k_is); (case l => k_is); (case c => k_is); (case k => k_is)
      (case b => intro _ _ _ _ _ _ us hl; obtain ⟨_, _, rfl⟩ := L3.len2 hl; rfl)
    have d_added : L2.DefK (L2.KOf KX) mg "added" Law.s_added ["one", "other"] := by
      dsimp only [L2.KOf]
      refine' L2.def_mk KX G ["one", "other"] ?a ?l ?c ?k ?b
      (case a => k_is); (case l => k_is); (case c => k_is); (case k => k_is)
      (case b => intro _ _ _ _ _ _ us hl; obtain ⟨_, _, rfl⟩ := L3.len2 hl; rfl)
    have d_is_less : L2.DefK (L2.KOf KX) mg "is_less" Law.s_is_less ["one", "other"] := by
      dsimp only [L2.KOf]
      refine' L2.def_mk KX G ["one", "other"] ?a ?l ?c ?k ?b
      (case a => k_is); (case l => k_is); (case c => k_is); (case k => k_is)
      (case b => intro _ _ _ _ _ _ us hl; obtain ⟨_, _, rfl⟩ := L3.len2 hl; rfl)
    have d_lessened : L2.DefK (L2.KOf KX) mg "lessened" Law.s_lessened ["one", "other"] := by
      dsimp only [L2.KOf]
      refine' L2.def_mk KX G ["one", "other"] ?a ?l ?c ?k ?b
      (case a => k_is); (case l => k_is); (case c => k_is); (case k => k_is)
      (case b => intro _ _ _ _ _ _ us hl; obtain ⟨_, _, rfl⟩ := L3.len2 hl; rfl)
    have d_timed : L2.DefK (L2.KOf KX) mg "timed" Law.s_timed ["one", "other"] := by
      dsimp only [L2.KOf]
      refine' L2.def_mk KX G ["one", "other"] ?a ?l ?c ?k ?b
      (case a => k_is); (case l => k_is); (case c => k_is); (case k => k_is)
      (case b => intro _ _ _ _ _ _ us hl; obtain ⟨_, _, rfl⟩ := L3.len2 hl; rfl)
    have d_parted : L2.DefK (L2.KOf KX) mg "parted" Law.s_parted ["one", "other"] := by
      dsimp only [L2.KOf]
      refine' L2.def_mk KX G ["one", "other"] ?a ?l ?c ?k ?b
      (case a => k_is); (case l => k_is); (case c => k_is); (case k => k_is)
      (case b => intro _ _ _ _ _ _ us hl; obtain ⟨_, _, rfl⟩ := L3.len2 hl; rfl)
    have d_sum_of_products : L2.DefK (L2.KOf KX) mg "sum_of_products" Law.s_sum_of_products ["pairs"] := by
      dsimp only [L2.KOf]
      refine' L2.def_mk KX G ["pairs"] ?a ?l ?c ?k ?b
      (case a => k_is); (case l => k_is); (case c => k_is); (case k => k_is)
      (case b => intro _ _ _ _ _ _ us hl; obtain ⟨_, rfl⟩ := L3.len1 hl; rfl)
    have d_cleared : L2.DefK (L2.KOf KX) mg "cleared" Law.s_cleared ["row", "k"] := by
      dsimp only [L2.KOf]
      refine' L2.def_mk KX G ["row", "k"] ?a ?l ?c ?k ?b
      (case a => k_is); (case l => k_is); (case c => k_is); (case k => k_is)
      (case b => intro _ _ _ _ _ _ us hl; obtain ⟨_, _, rfl⟩ := L3.len2 hl; rfl)
    have d_without_itself : L2.DefK (L2.KOf KX) mg "without_itself" Law.s_without_itself ["row", "k"] := by
      dsimp only [L2.KOf]
      refine' L2.def_mk KX G ["row", "k"] ?a ?l ?c ?k ?b
      (case a => k_is); (case l => k_is); (case c => k_is); (case k => k_is)
      (case b => intro _ _ _ _ _ _ us hl; obtain ⟨_, _, rfl⟩ := L3.len2 hl; rfl)
    have d_put_in : L2.DefK (L2.KOf KX) mg "put_in" Law.s_put_in ["row", "k", "found"] := by
      dsimp only [L2.KOf]
      refine' L2.def_mk KX G ["row", "k", "found"] ?a ?l ?c ?k ?b
      (case a => k_is); (case l => k_is); (case c => k_is); (case k => k_is)
      (case b => intro _ _ _ _ _ _ us hl; obtain ⟨_, _, _, rfl⟩ := L3.len3 hl; rfl)
    have d_solved_rows : L2.DefK (L2.KOf KX) mg "solved_rows" Law.s_solved_rows ["ways", "ends"] := by
      dsimp only [L2.KOf]
      refine' L2.def_mk KX G ["ways", "ends"] ?a ?l ?c ?k ?b
      (case a => k_is); (case l => k_is); (case c => k_is); (case k => k_is)
      (case b => intro _ _ _ _ _ _ us hl; obtain ⟨_, _, rfl⟩ := L3.len2 hl; rfl)
    have d_check_rules : L2.DefK (L2.KOf KX) mg "check_rules" Law.s_check_rules ["rules"] := by
      dsimp only [L2.KOf]
      refine' L2.def_mk KX G ["rules"] ?a ?l ?c ?k ?b
      (case a => k_is); (case l => k_is); (case c => k_is); (case k => k_is)
      (case b => intro _ _ _ _ _ _ us hl; obtain ⟨_, rfl⟩ := L3.len1 hl; rfl)
    have d_check_rule : L2.DefK (L2.KOf KX) mg "check_rule" Law.s_check_rule ["rule"] := by
      dsimp only [L2.KOf]
      refine' L2.def_mk KX G ["rule"] ?a ?l ?c ?k ?b
      (case a => k_is); (case l => k_is); (case c => k_is); (case k => k_is)
      (case b => intro _ _ _ _ _ _ us hl; obtain ⟨_, rfl⟩ := L3.len1 hl; rfl)
    have d_check_symbol : L2.DefK (L2.KOf KX) mg "check_symbol" Law.s_check_symbol ["text"] := by
      dsimp only [L2.KOf]
      refine' L2.def_mk KX G ["text"] ?a ?l ?c ?k ?b
      (case a => k_is); (case l => k_is); (case c => k_is); (case k => k_is)
      (case b => intro _ _ _ _ _ _ us hl; obtain ⟨_, rfl⟩ := L3.len1 hl; rfl)
    have d_is_symbol : L2.DefK (L2.KOf KX) mg "is_symbol" Law.s_is_symbol ["text"] := by
      dsimp only [L2.KOf]
      refine' L2.def_mk KX G ["text"] ?a ?l ?c ?k ?b
      (case a => k_is); (case l => k_is); (case c => k_is); (case k => k_is)
      (case b => intro _ _ _ _ _ _ us hl; obtain ⟨_, rfl⟩ := L3.len1 hl; rfl)
    have d_is_letter : L2.DefK (L2.KOf KX) mg "is_letter" Law.s_is_letter ["sign"] := by
      dsimp only [L2.KOf]
      refine' L2.def_mk KX G ["sign"] ?a ?l ?c ?k ?b
      (case a => k_is); (case l => k_is); (case c => k_is); (case k => k_is)
      (case b => intro _ _ _ _ _ _ us hl; obtain ⟨_, rfl⟩ := L3.len1 hl; rfl)
    have d_check_start : L2.DefK (L2.KOf KX) mg "check_start" Law.s_check_start ["start", "heads"] := by
      dsimp only [L2.KOf]
      refine' L2.def_mk KX G ["start", "heads"] ?a ?l ?c ?k ?b
      (case a => k_is); (case l => k_is); (case c => k_is); (case k => k_is)
      (case b => intro _ _ _ _ _ _ us hl; obtain ⟨_, _, rfl⟩ := L3.len2 hl; rfl)
    have d_check_sums : L2.DefK (L2.KOf KX) mg "check_sums" Law.s_check_sums ["heads", "rules"] := by
      dsimp only [L2.KOf]
      refine' L2.def_mk KX G ["heads", "rules"] ?a ?l ?c ?k ?b
      (case a => k_is); (case l => k_is); (case c => k_is); (case k => k_is)
      (case b => intro _ _ _ _ _ _ us hl; obtain ⟨_, _, rfl⟩ := L3.len2 hl; rfl)
    have d_heads_of : L2.DefK (L2.KOf KX) mg "heads_of" Law.s_heads_of ["rules"] := by
      dsimp only [L2.KOf]
      refine' L2.def_mk KX G ["rules"] ?a ?l ?c ?k ?b
      (case a => k_is); (case l => k_is); (case c => k_is); (case k => k_is)
      (case b => intro _ _ _ _ _ _ us hl; obtain ⟨_, rfl⟩ := L3.len1 hl; rfl)
    have d_live_of : L2.DefK (L2.KOf KX) mg "live_of" Law.s_live_of ["heads", "rules"] := by
      dsimp only [L2.KOf]
      refine' L2.def_mk KX G ["heads", "rules"] ?a ?l ?c ?k ?b
      (case a => k_is); (case l => k_is); (case c => k_is); (case k => k_is)
      (case b => intro _ _ _ _ _ _ us hl; obtain ⟨_, _, rfl⟩ := L3.len2 hl; rfl)
    have d_has_live_body : L2.DefK (L2.KOf KX) mg "has_live_body" Law.s_has_live_body ["head", "rules", "heads", "live"] := by
      dsimp only [L2.KOf]
      refine' L2.def_mk KX G ["head", "rules", "heads", "live"] ?a ?l ?c ?k ?b
      (case a => k_is); (case l => k_is); (case c => k_is); (case k => k_is)
      (case b => intro _ _ _ _ _ _ us hl; obtain ⟨_, _, _, _, rfl⟩ := L3.len4 hl; rfl)
    have d_is_live_body : L2.DefK (L2.KOf KX) mg "is_live_body" Law.s_is_live_body ["body", "heads", "live"] := by
      dsimp only [L2.KOf]
      refine' L2.def_mk KX G ["body", "heads", "live"] ?a ?l ?c ?k ?b
      (case a => k_is); (case l => k_is); (case c => k_is); (case k => k_is)
      (case b => intro _ _ _ _ _ _ us hl; obtain ⟨_, _, _, rfl⟩ := L3.len3 hl; rfl)
    have d_stretches : L2.DefK (L2.KOf KX) mg "stretches" Law.s_stretches ["row"] := by
      dsimp only [L2.KOf]
      refine' L2.def_mk KX G ["row"] ?a ?l ?c ?k ?b
      (case a => k_is); (case l => k_is); (case c => k_is); (case k => k_is)
      (case b => intro _ _ _ _ _ _ us hl; obtain ⟨_, rfl⟩ := L3.len1 hl; rfl)
    have d_live_rules : L2.DefK (L2.KOf KX) mg "live_rules" Law.s_live_rules ["grammar"] := by
      dsimp only [L2.KOf]
      refine' L2.def_mk KX G ["grammar"] ?a ?l ?c ?k ?b
      (case a => k_is); (case l => k_is); (case c => k_is); (case k => k_is)
      (case b => intro _ _ _ _ _ _ us hl; obtain ⟨_, rfl⟩ := L3.len1 hl; rfl)
    have d_is_step : L2.DefK (L2.KOf KX) mg "is_step" Law.s_is_step ["rule", "heads"] := by
      dsimp only [L2.KOf]
      refine' L2.def_mk KX G ["rule", "heads"] ?a ?l ?c ?k ?b
      (case a => k_is); (case l => k_is); (case c => k_is); (case k => k_is)
      (case b => intro _ _ _ _ _ _ us hl; obtain ⟨_, _, rfl⟩ := L3.len2 hl; rfl)
    have d_chains_of : L2.DefK (L2.KOf KX) mg "chains_of" Law.s_chains_of ["heads", "steps"] := by
      dsimp only [L2.KOf]
      refine' L2.def_mk KX G ["heads", "steps"] ?a ?l ?c ?k ?b
      (case a => k_is); (case l => k_is); (case c => k_is); (case k => k_is)
      (case b => intro _ _ _ _ _ _ us hl; obtain ⟨_, _, rfl⟩ := L3.len2 hl; rfl)
    have d_law_cell_at : L2.DefK (L2.KOf KX) mg "_law_cell_at" Law.s_law_cell_at ["_law_script", "_law_k"] := by
      dsimp only [L2.KOf]
      refine' L2.def_mk KX G ["_law_script", "_law_k"] ?a ?l ?c ?k ?b
      (case a => k_is); (case l => k_is); (case c => k_is); (case k => k_is)
      (case b => intro _ _ _ _ _ _ us hl; obtain ⟨_, _, rfl⟩ := L3.len2 hl; rfl)
    have d_law_whole : L2.DefK (L2.KOf KX) mg "_law_whole" Law.s_law_whole ["_law_found"] := by
      dsimp only [L2.KOf]
      refine' L2.def_mk KX G ["_law_found"] ?a ?l ?c ?k ?b
      (case a => k_is); (case l => k_is); (case c => k_is); (case k => k_is)
      (case b => intro _ _ _ _ _ _ us hl; obtain ⟨_, rfl⟩ := L3.len1 hl; rfl)
    have d_law_symbols : L2.DefK (L2.KOf KX) mg "_law_symbols" Law.s_law_symbols ["_law_cell", "_law_many"] := by
      dsimp only [L2.KOf]
      refine' L2.def_mk KX G ["_law_cell", "_law_many"] ?a ?l ?c ?k ?b
      (case a => k_is); (case l => k_is); (case c => k_is); (case k => k_is)
      (case b => intro _ _ _ _ _ _ us hl; obtain ⟨_, _, rfl⟩ := L3.len2 hl; rfl)
    have d_law_share : L2.DefK (L2.KOf KX) mg "_law_share" Law.s_law_share ["_law_top", "_law_bottom"] := by
      dsimp only [L2.KOf]
      refine' L2.def_mk KX G ["_law_top", "_law_bottom"] ?a ?l ?c ?k ?b
      (case a => k_is); (case l => k_is); (case c => k_is); (case k => k_is)
      (case b => intro _ _ _ _ _ _ us hl; obtain ⟨_, _, rfl⟩ := L3.len2 hl; rfl)
    have d_law_added : L2.DefK (L2.KOf KX) mg "_law_added" Law.s_law_added ["_law_one", "_law_other"] := by
      dsimp only [L2.KOf]
      refine' L2.def_mk KX G ["_law_one", "_law_other"] ?a ?l ?c ?k ?b
      (case a => k_is); (case l => k_is); (case c => k_is); (case k => k_is)
      (case b => intro _ _ _ _ _ _ us hl; obtain ⟨_, _, rfl⟩ := L3.len2 hl; rfl)
    have d_law_timed : L2.DefK (L2.KOf KX) mg "_law_timed" Law.s_law_timed ["_law_one", "_law_other"] := by
      dsimp only [L2.KOf]
      refine' L2.def_mk KX G ["_law_one", "_law_other"] ?a ?l ?c ?k ?b
      (case a => k_is); (case l => k_is); (case c => k_is); (case k => k_is)
      (case b => intro _ _ _ _ _ _ us hl; obtain ⟨_, _, rfl⟩ := L3.len2 hl; rfl)
    have d_law_is_share : L2.DefK (L2.KOf KX) mg "_law_is_share" Law.s_law_is_share ["_law_found"] := by
      dsimp only [L2.KOf]
      refine' L2.def_mk KX G ["_law_found"] ?a ?l ?c ?k ?b
      (case a => k_is); (case l => k_is); (case c => k_is); (case k => k_is)
      (case b => intro _ _ _ _ _ _ us hl; obtain ⟨_, rfl⟩ := L3.len1 hl; rfl)
    have d_law_near : L2.DefK (L2.KOf KX) mg "_law_near" Law.s_law_near ["_law_way", "_law_own", "_law_other", "_law_back"] := by
      dsimp only [L2.KOf]
      refine' L2.def_mk KX G ["_law_way", "_law_own", "_law_other", "_law_back"] ?a ?l ?c ?k ?b
      (case a => k_is); (case l => k_is); (case c => k_is); (case k => k_is)
      (case b => intro _ _ _ _ _ _ us hl; obtain ⟨_, _, _, _, rfl⟩ := L3.len4 hl; rfl)
    have z_len : mg "len" = none := by
      refine' PySem.W.mg_none_of KX G ?a
      (case a => k_is)
    have z_range : mg "range" = none := by
      refine' PySem.W.mg_none_of KX G ?a
      (case a => k_is)
    have z_list : mg "list" = none := by
      refine' PySem.W.mg_none_of KX G ?a
      (case a => k_is)
    have z_tuple : mg "tuple" = none := by
      refine' PySem.W.mg_none_of KX G ?a
      (case a => k_is)
    have z_int : mg "int" = none := by
      refine' PySem.W.mg_none_of KX G ?a
      (case a => k_is)
    have z_bool : mg "bool" = none := by
      refine' PySem.W.mg_none_of KX G ?a
      (case a => k_is)
    have z_str : mg "str" = none := by
      refine' PySem.W.mg_none_of KX G ?a
      (case a => k_is)
    have z_dict : mg "dict" = none := by
      refine' PySem.W.mg_none_of KX G ?a
      (case a => k_is)
    have z_isinstance : mg "isinstance" = none := by
      refine' PySem.W.mg_none_of KX G ?a
      (case a => k_is)
    have z_sum : mg "sum" = none := by
      refine' PySem.W.mg_none_of KX G ?a
      (case a => k_is)
    have z_enumerate : mg "enumerate" = none := by
      refine' PySem.W.mg_none_of KX G ?a
      (case a => k_is)
    have z_zip : mg "zip" = none := by
      refine' PySem.W.mg_none_of KX G ?a
      (case a => k_is)
    have z_ValueError : mg "ValueError" = none := by
      refine' PySem.W.mg_none_of KX G ?a
      (case a => k_is)
    have z_all : mg "all" = none := by
      refine' PySem.W.mg_none_of KX G ?a
      (case a => k_is)
    have z_any : mg "any" = none := by
      refine' PySem.W.mg_none_of KX G ?a
      (case a => k_is)
    have z_reversed : mg "reversed" = none := by
      refine' PySem.W.mg_none_of KX G ?a
      (case a => k_is)
    have z : L3.Zs mg := ⟨z_len, z_range, z_list, z_tuple, z_int, z_bool, z_str, z_dict, z_isinstance, z_sum, z_enumerate, z_zip, z_ValueError, z_all, z_any, z_reversed⟩
    have g_NOUGHT : L3.GlobD (L2.KOf KX) mg "NOUGHT" (L3.sh 0) := by
      dsimp only [L2.KOf]
      refine' L3.globPair KX G ?a ?l
      (case a => k_is); (case l => k_is)
    have g_ONE : L3.GlobD (L2.KOf KX) mg "ONE" (L3.sh 1) := by
      dsimp only [L2.KOf]
      refine' L3.globPair KX G ?a ?l
      (case a => k_is); (case l => k_is)
    have g_MOST_RULES : L3.GlobD (L2.KOf KX) mg "MOST_RULES" (.int 30) := by
      dsimp only [L2.KOf]
      refine' L3.globInt KX G ?a
      (case a => k_is)
    have g_MOST_SYMBOLS : L3.GlobD (L2.KOf KX) mg "MOST_SYMBOLS" (.int 4) := by
      dsimp only [L2.KOf]
      refine' L3.globInt KX G ?a
      (case a => k_is)
    have g_MOST_LETTERS : L3.GlobD (L2.KOf KX) mg "MOST_LETTERS" (.int 8) := by
      dsimp only [L2.KOf]
      refine' L3.globInt KX G ?a
      (case a => k_is)
    have cc_Grammar : ∃ C, L3.ClsG (L2.KOf KX) C ∧ L2.InitK (L2.KOf KX) mg "Grammar" C "Grammar.__init__" Law.s_Grammar___init__ ["self", "start", "rules"] ∧ L2.MethK (L2.KOf KX) C "start" "Grammar.start" Law.s_Grammar_start ["self"] ∧ L2.MethK (L2.KOf KX) C "rules" "Grammar.rules" Law.s_Grammar_rules ["self"] ∧ L2.MethK (L2.KOf KX) C "heads" "Grammar.heads" Law.s_Grammar_heads ["self"] ∧ L2.MethK (L2.KOf KX) C "live" "Grammar.live" Law.s_Grammar_live ["self"] := by
      dsimp only [L2.KOf]
      refine' ⟨_, L3.clsG_mk ?pg ?hd ?po ?sa ?n0 ?n1 ?n2 ?n3, L2.init_mk KX G ["self", "start", "rules"] ?g ?a ?mk ?i ?kc ?l ?c ?k ?b, L2.meth_mk ["self"] ?a0 ?i0 ?l0 ?c0 ?k0 ?b0, L2.meth_mk ["self"] ?a1 ?i1 ?l1 ?c1 ?k1 ?b1, L2.meth_mk ["self"] ?a2 ?i2 ?l2 ?c2 ?k2 ?b2, L2.meth_mk ["self"] ?a3 ?i3 ?l3 ?c3 ?k3 ?b3⟩
      (case g => k_is); (case a => k_is); (case mk => k_is); (case i => k_is); (case kc => k_is); (case l => k_is); (case c => k_is); (case k => k_is)
      (case b => intro _ _ _ _ _ _ us hl; obtain ⟨_, _, _, rfl⟩ := L3.len3 hl; rfl)
      (case pg => k_is); (case hd => k_is); (case po => k_is); (case sa => k_is)
      (case n0 => k_is)
      (case n1 => k_is)
      (case n2 => k_is)
      (case n3 => k_is)
      (case a0 => k_is); (case i0 => k_is); (case l0 => k_is); (case c0 => k_is); (case k0 => k_is)
      (case b0 => intro _ _ _ _ _ _ us hl; obtain ⟨_, rfl⟩ := L3.len1 hl; rfl)
      (case a1 => k_is); (case i1 => k_is); (case l1 => k_is); (case c1 => k_is); (case k1 => k_is)
      (case b1 => intro _ _ _ _ _ _ us hl; obtain ⟨_, rfl⟩ := L3.len1 hl; rfl)
      (case a2 => k_is); (case i2 => k_is); (case l2 => k_is); (case c2 => k_is); (case k2 => k_is)
      (case b2 => intro _ _ _ _ _ _ us hl; obtain ⟨_, rfl⟩ := L3.len1 hl; rfl)
      (case a3 => k_is); (case i3 => k_is); (case l3 => k_is); (case c3 => k_is); (case k3 => k_is)
      (case b3 => intro _ _ _ _ _ _ us hl; obtain ⟨_, rfl⟩ := L3.len1 hl; rfl)
    obtain ⟨C_Grammar, c_Grammar, d_Grammar, d_Grammar_start, d_Grammar_rules, d_Grammar_heads, d_Grammar_live⟩ := cc_Grammar
    have cc_Sums : ∃ C, L3.ClsS (L2.KOf KX) C ∧ L2.InitK (L2.KOf KX) mg "Sums" C "Sums.__init__" Law.s_Sums___init__ ["self", "grammar", "row"] ∧ L2.MethK (L2.KOf KX) C "within" "Sums.within" Law.s_Sums_within ["self", "head", "i", "j"] ∧ L2.MethK (L2.KOf KX) C "whole" "Sums.whole" Law.s_Sums_whole ["self"] ∧ L2.MethK (L2.KOf KX) C "settle" "Sums.settle" Law.s_Sums_settle ["self", "i", "j"] ∧ L2.MethK (L2.KOf KX) C "ends_at" "Sums.ends_at" Law.s_Sums_ends_at ["self", "i", "j"] ∧ L2.MethK (L2.KOf KX) C "worth" "Sums.worth" Law.s_Sums_worth ["self", "symbol", "i", "j"] ∧ L2.MethK (L2.KOf KX) C "worth_of_body" "Sums.worth_of_body" Law.s_Sums_worth_of_body ["self", "body", "i", "j"] := by
      dsimp only [L2.KOf]
      refine' ⟨_, L3.clsS_mk ?pg ?hd ?po ?sa ?n0 ?n1 ?n2 ?n3 ?n4 ?n5 ?n6, L2.init_mk KX G ["self", "grammar", "row"] ?g ?a ?mk ?i ?kc ?l ?c ?k ?b, L2.meth_mk ["self", "head", "i", "j"] ?a0 ?i0 ?l0 ?c0 ?k0 ?b0, L2.meth_mk ["self"] ?a1 ?i1 ?l1 ?c1 ?k1 ?b1, L2.meth_mk ["self", "i", "j"] ?a2 ?i2 ?l2 ?c2 ?k2 ?b2, L2.meth_mk ["self", "i", "j"] ?a3 ?i3 ?l3 ?c3 ?k3 ?b3, L2.meth_mk ["self", "symbol", "i", "j"] ?a4 ?i4 ?l4 ?c4 ?k4 ?b4, L2.meth_mk ["self", "body", "i", "j"] ?a5 ?i5 ?l5 ?c5 ?k5 ?b5⟩
      (case g => k_is); (case a => k_is); (case mk => k_is); (case i => k_is); (case kc => k_is); (case l => k_is); (case c => k_is); (case k => k_is)
      (case b => intro _ _ _ _ _ _ us hl; obtain ⟨_, _, _, rfl⟩ := L3.len3 hl; rfl)
      (case pg => k_is); (case hd => k_is); (case po => k_is); (case sa => k_is)
      (case n0 => k_is)
      (case n1 => k_is)
      (case n2 => k_is)
      (case n3 => k_is)
      (case n4 => k_is)
      (case n5 => k_is)
      (case n6 => k_is)
      (case a0 => k_is); (case i0 => k_is); (case l0 => k_is); (case c0 => k_is); (case k0 => k_is)
      (case b0 => intro _ _ _ _ _ _ us hl; obtain ⟨_, _, _, _, rfl⟩ := L3.len4 hl; rfl)
      (case a1 => k_is); (case i1 => k_is); (case l1 => k_is); (case c1 => k_is); (case k1 => k_is)
      (case b1 => intro _ _ _ _ _ _ us hl; obtain ⟨_, rfl⟩ := L3.len1 hl; rfl)
      (case a2 => k_is); (case i2 => k_is); (case l2 => k_is); (case c2 => k_is); (case k2 => k_is)
      (case b2 => intro _ _ _ _ _ _ us hl; obtain ⟨_, _, _, rfl⟩ := L3.len3 hl; rfl)
      (case a3 => k_is); (case i3 => k_is); (case l3 => k_is); (case c3 => k_is); (case k3 => k_is)
      (case b3 => intro _ _ _ _ _ _ us hl; obtain ⟨_, _, _, rfl⟩ := L3.len3 hl; rfl)
      (case a4 => k_is); (case i4 => k_is); (case l4 => k_is); (case c4 => k_is); (case k4 => k_is)
      (case b4 => intro _ _ _ _ _ _ us hl; obtain ⟨_, _, _, _, rfl⟩ := L3.len4 hl; rfl)
      (case a5 => k_is); (case i5 => k_is); (case l5 => k_is); (case c5 => k_is); (case k5 => k_is)
      (case b5 => intro _ _ _ _ _ _ us hl; obtain ⟨_, _, _, _, rfl⟩ := L3.len4 hl; rfl)
    obtain ⟨C_Sums, c_Sums, d_Sums, d_Sums_within, d_Sums_whole, d_Sums_settle, d_Sums_ends_at, d_Sums_worth, d_Sums_worth_of_body⟩ := cc_Sums
    refine' L2.law_mk (st := Law.s_law) KX G hmg ?a ?l ?c ?k ?b ?ok
    (case a => k_is); (case l => k_is); (case c => k_is); (case k => k_is)
    (case b => exact fun _ => rfl)
    (case ok =>
      intro fd base kb nb F
      exact Law.law_all rfl z g_NOUGHT g_ONE g_MOST_RULES g_MOST_SYMBOLS g_MOST_LETTERS c_Grammar d_Grammar d_Grammar_start d_Grammar_rules d_Grammar_heads d_Grammar_live c_Sums d_Sums d_Sums_within d_Sums_whole d_Sums_settle d_Sums_ends_at d_Sums_worth d_Sums_worth_of_body d_common_divisor d_share d_added d_is_less d_lessened d_timed d_parted d_sum_of_products d_cleared d_without_itself d_put_in d_solved_rows d_check_rules d_check_rule d_check_symbol d_is_symbol d_is_letter d_check_start d_check_sums d_heads_of d_live_of d_has_live_body d_is_live_body d_stretches d_live_rules d_is_step d_chains_of d_law_cell_at d_law_whole d_law_symbols d_law_share d_law_added d_law_timed d_law_is_share d_law_near F)
