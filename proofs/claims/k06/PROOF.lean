import PyProof.Rows.All
import Wide.All
import OpenK.AllK
import Wide.FinOn
import Lean
import PyProof.EqAt
import PyProof.EqKinds
import PyProof.TupleCall
import PyProof.NeKinds
import PyProof.EnumStmt
import PyProof.ZipIter
import PyProof.Rows.ZipGen
import PyProof.EnumFor
import PyProof.ConsumeWalk
import PyProof.StrWalks
import PyProof.FString5
import PyProof.TupleKey
import PyProof.DictRoadsH
import PyProof.Rows.TupTab
import PyProof.ReprStr
import PyProof.StrLawsRepr
import PyProof.ListMulRoad
import PyProof.StrOps2
import PyProof.ListNew
import PyProof.TupleIter
import PyProof.WalksMore
import PySem.Challenge.RW_scoreflow_k06_trees
set_option compiler.extract_closed false
set_option Elab.async false
set_option linter.all false
set_option maxRecDepth 100000
namespace L2
open PySem
def inClass (s : Stmt) (j : Nat) : Stmt := match s with
  | .ClassDef _ _ _ body _ _ _ _ _ _ _ => body.getD j (.Pass ⟨0, 0, 0, 0⟩)
  | _ => .Pass ⟨0, 0, 0, 0⟩
def defArgs (s : Stmt) : Arguments := match s with
  | .FunctionDef _ a _ _ _ _ _ _ _ _ => a
  | _ => { posonlyargs := [], args := [], vararg := none, kwonlyargs := [], kw_defaults := [], kwarg := none, defaults := [] }
def defBody (s : Stmt) : List Stmt := match s with
  | .FunctionDef _ _ b _ _ _ _ _ _ _ => b
  | _ => []
def defScope (s : Stmt) : Scope := match s with
  | .FunctionDef _ _ _ _ _ _ sc _ _ _ => sc
  | _ => { kind := .function, names := [], isGenerator := false, isCoroutine := false }
end L2
namespace Law
open PySem L2
def top (i : Nat) : Stmt := PySem.Challenge.pw_scoreflow_k06_trees.main.body.getD i (.Pass ⟨0, 0, 0, 0⟩)
abbrev s_common_divisor : Stmt := top 7
abbrev s_share : Stmt := top 8
abbrev s_added : Stmt := top 9
abbrev s_timed : Stmt := top 10
abbrev s_head_of : Stmt := top 12
abbrev s_words_of : Stmt := top 13
abbrev s_share_of : Stmt := top 14
abbrev s_is_tree : Stmt := top 15
abbrev s_fits_rule : Stmt := top 16
abbrev s_due_parts : Stmt := top 17
abbrev s_Grammar___init__ : Stmt := inClass (top 22) 0
abbrev s_Grammar_start : Stmt := inClass (top 22) 1
abbrev s_Grammar_rules : Stmt := inClass (top 22) 2
abbrev s_Grammar_heads : Stmt := inClass (top 22) 3
abbrev s_Grammar_live : Stmt := inClass (top 22) 4
abbrev s_check_rules : Stmt := top 23
abbrev s_check_rule : Stmt := top 24
abbrev s_check_symbol : Stmt := top 25
abbrev s_is_symbol : Stmt := top 26
abbrev s_is_letter : Stmt := top 27
abbrev s_check_start : Stmt := top 28
abbrev s_check_sums : Stmt := top 29
abbrev s_heads_of : Stmt := top 30
abbrev s_live_of : Stmt := top 31
abbrev s_has_live_body : Stmt := top 32
abbrev s_is_live_body : Stmt := top 33
abbrev s_law_cell_at : Stmt := top 35
abbrev s_law_dice : Stmt := top 36
abbrev s_law_roll : Stmt := top 37
abbrev s_law_whole : Stmt := top 38
abbrev s_law_symbols : Stmt := top 39
abbrev s_law_share : Stmt := top 40
abbrev s_law_timed : Stmt := top 42
abbrev s_law_is_share : Stmt := top 43
abbrev s_law_bodies : Stmt := top 44
abbrev s_law_rules : Stmt := top 45
abbrev s_law_made : Stmt := top 46
abbrev s_law_tree : Stmt := top 47
abbrev s_law_words : Stmt := top 48
abbrev s_law_share_of : Stmt := top 49
abbrev s_law_is_tree : Stmt := top 50
abbrev s_law_spoilt : Stmt := top 51
abbrev s_law : Stmt := top 52
def en (P : Params) (x : Str) (t : Nat) (v : Value) : DictEntry := { hash := PyData.keyHash P x, key := .str x t, val := v }
def KP : Params → PySem.W.Frag := fun P =>
  (nat_lit 2, { cls := .none, data := .dict #[] }) ::
  (nat_lit 3, { cls := .type "dict", data := .dict #[en P "__name__" 165 (.str "law_scoreflow_k06_trees" 493), en P "__doc__" 166 (.none), en P "__package__" 167 (.none), en P "__loader__" 168 (.builtin "__main__.__loader__#opaque"), en P "__spec__" 169 (.none), en P "__annotations__" 170 (.ref 6), en P "__builtins__" 171 (.ref 4), en P "__file__" 173 (.str "/claim/cut.py" 172), en P "__cached__" 174 (.none), en P "ScoreError" 206 (.ref 24), en P "NoShare" 222 (.ref 37), en P "NoGrammar" 238 (.ref 49), en P "NOUGHT" 243 (.ref 52), en P "ONE" 246 (.ref 53), en P "common_divisor" 255 (.ref 60), en P "share" 264 (.ref 67), en P "added" 275 (.ref 74), en P "timed" 285 (.ref 81), en P "head_of" 295 (.ref 88), en P "words_of" 306 (.ref 95), en P "share_of" 312 (.ref 100), en P "is_tree" 324 (.ref 107), en P "fits_rule" 332 (.ref 114), en P "due_parts" 340 (.ref 121), en P "MOST_RULES" 344 (.int 30 343), en P "MOST_SYMBOLS" 346 (.int 4 345), en P "MOST_LETTERS" 348 (.int 8 347), en P "Grammar" 409 (.ref 166), en P "check_rules" 418 (.ref 177), en P "check_rule" 426 (.ref 184), en P "check_symbol" 433 (.ref 191), en P "is_symbol" 439 (.ref 196), en P "is_letter" 446 (.ref 203), en P "check_start" 454 (.ref 210), en P "check_sums" 465 (.ref 217), en P "heads_of" 474 (.ref 224), en P "live_of" 480 (.ref 229), en P "has_live_body" 486 (.ref 234), en P "is_live_body" 492 (.ref 239), en P "_law_cell_at" 502 (.ref 246), en P "_law_dice" 509 (.ref 253), en P "_law_roll" 517 (.ref 260), en P "_law_whole" 524 (.ref 267), en P "_law_symbols" 540 (.ref 274), en P "_law_share" 551 (.ref 281), en P "_law_added" 559 (.ref 288), en P "_law_timed" 567 (.ref 295), en P "_law_is_share" 574 (.ref 302), en P "_law_bodies" 589 (.ref 309), en P "_law_rules" 595 (.ref 314), en P "_law_made" 608 (.ref 321), en P "_law_tree" 614 (.ref 326), en P "_law_words" 623 (.ref 333), en P "_law_share_of" 633 (.ref 340), en P "_law_is_tree" 639 (.ref 345), en P "_law_spoilt" 652 (.ref 352), en P "law" 669 (.ref 359)] 57 }) ::
  (nat_lit 23, { cls := .type "dict", data := .dict #[en P "__module__" 196 (.str "scoreflow.errors" 187), en P "__firstlineno__" 200 (.int 2 199), en P "__static_attributes__" 201 (.ref 22), en P "__weakref__" 203 (.ref 25), en P "__doc__" 204 (.none)] 3 }) ::
  (nat_lit 24, { cls := .type "type", data := .cls { name := "ScoreError", bases := [.type "ValueError"], mro := [.ref 24, .type "ValueError", .type "Exception", .type "BaseException", .type "object"], ns := 23, qualname := "ScoreError", subclasses := [.ref 37, .ref 49] }, slots := #[.some (.ref 15), .none, .some (.str "ScoreError" 189), .some (.str "ScoreError" 197), .some (.builtin "ValueError.__new__"), .some (.bool Bool.true)] }) ::
  (nat_lit 25, { cls := .type "getset_descriptor", data := .fields #[.str "__weakref__" 202, .ref 24, .builtin "ExceptionGroup.__weakref__", .none] }) ::
  (nat_lit 36, { cls := .type "dict", data := .dict #[en P "__module__" 214 (.str "scoreflow.errors" 187), en P "__firstlineno__" 218 (.int 4 217), en P "__static_attributes__" 219 (.ref 35), en P "__doc__" 220 (.none)] 2 }) ::
  (nat_lit 37, { cls := .type "type", data := .cls { name := "NoShare", bases := [.ref 24], mro := [.ref 37, .ref 24, .type "ValueError", .type "Exception", .type "BaseException", .type "object"], ns := 36, qualname := "NoShare" }, slots := #[.some (.ref 28), .none, .some (.str "NoShare" 207), .some (.str "NoShare" 215), .some (.builtin "ValueError.__new__"), .some (.bool Bool.true)] }) ::
  (nat_lit 48, { cls := .type "dict", data := .dict #[en P "__module__" 230 (.str "scoreflow.errors" 187), en P "__firstlineno__" 234 (.int 6 233), en P "__static_attributes__" 235 (.ref 47), en P "__doc__" 236 (.none)] 2 }) ::
  (nat_lit 49, { cls := .type "type", data := .cls { name := "NoGrammar", bases := [.ref 24], mro := [.ref 49, .ref 24, .type "ValueError", .type "Exception", .type "BaseException", .type "object"], ns := 48, qualname := "NoGrammar" }, slots := #[.some (.ref 40), .none, .some (.str "NoGrammar" 223), .some (.str "NoGrammar" 231), .some (.builtin "ValueError.__new__"), .some (.bool Bool.true)] }) ::
  (nat_lit 52, { cls := .type "tuple", data := .seq #[.int 0 241, .int 1 242] }) ::
  (nat_lit 53, { cls := .type "tuple", data := .seq #[.int 1 244, .int 1 245] }) ::
  (nat_lit 59, { cls := .type "code", data := .fields #[.str "common_divisor" 247, .str "common_divisor" 248, .str "/claim/cut.py" 249, .int 11 0, .int 2 0, .int 0 0, .int 0 0, .int 3 0, .ref 54, .bool Bool.true, .int 181 0, .ref 55, .none, .ref 56, .ref 57, .ref 58, .int 253 0, .int 11 0, .str "/claim/cut.py" 254] }) ::
  (nat_lit 60, { cls := .type "function", dict := .none, data := .func (PySem.W.fnOf ("common_divisor") ("common_divisor") (L2.defArgs s_common_divisor) (L2.defBody s_common_divisor) (L2.defScope s_common_divisor) .none .none .none (.str "scoreflow.shares" 239) .none (.ref 59) .none), slots := #[] }) ::
  (nat_lit 66, { cls := .type "code", data := .fields #[.str "share" 256, .str "share" 257, .str "/claim/cut.py" 258, .int 17 0, .int 2 0, .int 0 0, .int 0 0, .int 3 0, .ref 61, .bool Bool.true, .int 181 0, .ref 62, .none, .ref 63, .ref 64, .ref 65, .int 262 0, .int 17 0, .str "/claim/cut.py" 263] }) ::
  (nat_lit 67, { cls := .type "function", dict := .none, data := .func (PySem.W.fnOf ("share") ("share") (L2.defArgs s_share) (L2.defBody s_share) (L2.defScope s_share) .none .none .none (.str "scoreflow.shares" 239) .none (.ref 66) .none), slots := #[] }) ::
  (nat_lit 73, { cls := .type "code", data := .fields #[.str "added" 265, .str "added" 266, .str "/claim/cut.py" 267, .int 24 0, .int 2 0, .int 0 0, .int 0 0, .int 3 0, .ref 68, .bool Bool.true, .int 181 0, .ref 69, .none, .ref 70, .ref 71, .ref 72, .int 273 0, .int 24 0, .str "/claim/cut.py" 274] }) ::
  (nat_lit 74, { cls := .type "function", dict := .none, data := .func (PySem.W.fnOf ("added") ("added") (L2.defArgs s_added) (L2.defBody s_added) (L2.defScope s_added) .none .none .none (.str "scoreflow.shares" 239) .none (.ref 73) .none), slots := #[] }) ::
  (nat_lit 80, { cls := .type "code", data := .fields #[.str "timed" 276, .str "timed" 277, .str "/claim/cut.py" 278, .int 29 0, .int 2 0, .int 0 0, .int 0 0, .int 3 0, .ref 75, .bool Bool.true, .int 181 0, .ref 76, .none, .ref 77, .ref 78, .ref 79, .int 283 0, .int 29 0, .str "/claim/cut.py" 284] }) ::
  (nat_lit 81, { cls := .type "function", dict := .none, data := .func (PySem.W.fnOf ("timed") ("timed") (L2.defArgs s_timed) (L2.defBody s_timed) (L2.defScope s_timed) .none .none .none (.str "scoreflow.shares" 239) .none (.ref 80) .none), slots := #[] }) ::
  (nat_lit 87, { cls := .type "code", data := .fields #[.str "head_of" 288, .str "head_of" 289, .str "/claim/cut.py" 290, .int 34 0, .int 2 0, .int 0 0, .int 0 0, .int 3 0, .ref 82, .bool Bool.true, .int 181 0, .ref 83, .none, .ref 84, .ref 85, .ref 86, .int 293 0, .int 34 0, .str "/claim/cut.py" 294] }) ::
  (nat_lit 88, { cls := .type "function", dict := .none, data := .func (PySem.W.fnOf ("head_of") ("head_of") (L2.defArgs s_head_of) (L2.defBody s_head_of) (L2.defScope s_head_of) .none .none .none (.str "scoreflow.trees" 286) .none (.ref 87) .none), slots := #[] }) ::
  (nat_lit 94, { cls := .type "code", data := .fields #[.str "words_of" 296, .str "words_of" 297, .str "/claim/cut.py" 298, .int 36 0, .int 2 0, .int 0 0, .int 0 0, .int 3 0, .ref 89, .bool Bool.true, .int 181 0, .ref 90, .none, .ref 91, .ref 92, .ref 93, .int 304 0, .int 36 0, .str "/claim/cut.py" 305] }) ::
  (nat_lit 95, { cls := .type "function", dict := .none, data := .func (PySem.W.fnOf ("words_of") ("words_of") (L2.defArgs s_words_of) (L2.defBody s_words_of) (L2.defScope s_words_of) .none .none .none (.str "scoreflow.trees" 286) .none (.ref 94) .none), slots := #[] }) ::
  (nat_lit 99, { cls := .type "code", data := .fields #[.str "share_of" 307, .str "share_of" 308, .str "/claim/cut.py" 309, .int 46 0, .int 2 0, .int 0 0, .int 0 0, .int 3 0, .ref 96, .bool Bool.true, .int 181 0, .ref 97, .none, .none, .none, .ref 98, .int 310 0, .int 46 0, .str "/claim/cut.py" 311] }) ::
  (nat_lit 100, { cls := .type "function", dict := .none, data := .func (PySem.W.fnOf ("share_of") ("share_of") (L2.defArgs s_share_of) (L2.defBody s_share_of) (L2.defScope s_share_of) .none .none .none (.str "scoreflow.trees" 286) .none (.ref 99) .none), slots := #[] }) ::
  (nat_lit 106, { cls := .type "code", data := .fields #[.str "is_tree" 313, .str "is_tree" 314, .str "/claim/cut.py" 315, .int 55 0, .int 2 0, .int 0 0, .int 0 0, .int 3 0, .ref 101, .bool Bool.true, .int 181 0, .ref 102, .none, .ref 103, .ref 104, .ref 105, .int 322 0, .int 55 0, .str "/claim/cut.py" 323] }) ::
  (nat_lit 107, { cls := .type "function", dict := .none, data := .func (PySem.W.fnOf ("is_tree") ("is_tree") (L2.defArgs s_is_tree) (L2.defBody s_is_tree) (L2.defScope s_is_tree) .none .none .none (.str "scoreflow.trees" 286) .none (.ref 106) .none), slots := #[] }) ::
  (nat_lit 113, { cls := .type "code", data := .fields #[.str "fits_rule" 325, .str "fits_rule" 326, .str "/claim/cut.py" 327, .int 70 0, .int 2 0, .int 0 0, .int 0 0, .int 3 0, .ref 108, .bool Bool.true, .int 181 0, .ref 109, .none, .ref 110, .ref 111, .ref 112, .int 330 0, .int 70 0, .str "/claim/cut.py" 331] }) ::
  (nat_lit 114, { cls := .type "function", dict := .none, data := .func (PySem.W.fnOf ("fits_rule") ("fits_rule") (L2.defArgs s_fits_rule) (L2.defBody s_fits_rule) (L2.defScope s_fits_rule) .none .none .none (.str "scoreflow.trees" 286) .none (.ref 113) .none), slots := #[] }) ::
  (nat_lit 120, { cls := .type "code", data := .fields #[.str "due_parts" 333, .str "due_parts" 334, .str "/claim/cut.py" 335, .int 76 0, .int 2 0, .int 0 0, .int 0 0, .int 3 0, .ref 115, .bool Bool.true, .int 181 0, .ref 116, .none, .ref 117, .ref 118, .ref 119, .int 338 0, .int 76 0, .str "/claim/cut.py" 339] }) ::
  (nat_lit 121, { cls := .type "function", dict := .none, data := .func (PySem.W.fnOf ("due_parts") ("due_parts") (L2.defArgs s_due_parts) (L2.defBody s_due_parts) (L2.defScope s_due_parts) .none .none .none (.str "scoreflow.trees" 286) .none (.ref 120) .none), slots := #[] }) ::
  (nat_lit 134, { cls := .type "code", data := .fields #[.str "__init__" 361, .str "Grammar.__init__" 362, .str "/claim/cut.py" 363, .int 84 0, .int 3 0, .int 0 0, .int 0 0, .int 3 0, .ref 129, .bool Bool.true, .int 181 0, .ref 130, .none, .ref 131, .ref 132, .ref 133, .int 367 0, .int 84 0, .str "/claim/cut.py" 368] }) ::
  (nat_lit 135, { cls := .type "function", dict := .none, data := .func (PySem.W.fnOf ("__init__") ("Grammar.__init__") (L2.defArgs s_Grammar___init__) (L2.defBody s_Grammar___init__) (L2.defScope s_Grammar___init__) .none .none .none (.str "scoreflow.grammar" 341) .none (.ref 134) .none), slots := #[] }) ::
  (nat_lit 141, { cls := .type "code", data := .fields #[.str "start" 370, .str "Grammar.start" 371, .str "/claim/cut.py" 372, .int 93 0, .int 1 0, .int 0 0, .int 0 0, .int 3 0, .ref 136, .bool Bool.true, .int 181 0, .ref 137, .none, .ref 138, .ref 139, .ref 140, .int 374 0, .int 93 0, .str "/claim/cut.py" 375] }) ::
  (nat_lit 142, { cls := .type "function", dict := .none, data := .func (PySem.W.fnOf ("start") ("Grammar.start") (L2.defArgs s_Grammar_start) (L2.defBody s_Grammar_start) (L2.defScope s_Grammar_start) .none .none .none (.str "scoreflow.grammar" 341) .none (.ref 141) .none), slots := #[] }) ::
  (nat_lit 148, { cls := .type "code", data := .fields #[.str "rules" 377, .str "Grammar.rules" 378, .str "/claim/cut.py" 379, .int 96 0, .int 1 0, .int 0 0, .int 0 0, .int 3 0, .ref 143, .bool Bool.true, .int 181 0, .ref 144, .none, .ref 145, .ref 146, .ref 147, .int 381 0, .int 96 0, .str "/claim/cut.py" 382] }) ::
  (nat_lit 149, { cls := .type "function", dict := .none, data := .func (PySem.W.fnOf ("rules") ("Grammar.rules") (L2.defArgs s_Grammar_rules) (L2.defBody s_Grammar_rules) (L2.defScope s_Grammar_rules) .none .none .none (.str "scoreflow.grammar" 341) .none (.ref 148) .none), slots := #[] }) ::
  (nat_lit 155, { cls := .type "code", data := .fields #[.str "heads" 384, .str "Grammar.heads" 385, .str "/claim/cut.py" 386, .int 99 0, .int 1 0, .int 0 0, .int 0 0, .int 3 0, .ref 150, .bool Bool.true, .int 181 0, .ref 151, .none, .ref 152, .ref 153, .ref 154, .int 388 0, .int 99 0, .str "/claim/cut.py" 389] }) ::
  (nat_lit 156, { cls := .type "function", dict := .none, data := .func (PySem.W.fnOf ("heads") ("Grammar.heads") (L2.defArgs s_Grammar_heads) (L2.defBody s_Grammar_heads) (L2.defScope s_Grammar_heads) .none .none .none (.str "scoreflow.grammar" 341) .none (.ref 155) .none), slots := #[] }) ::
  (nat_lit 162, { cls := .type "code", data := .fields #[.str "live" 391, .str "Grammar.live" 392, .str "/claim/cut.py" 393, .int 102 0, .int 1 0, .int 0 0, .int 0 0, .int 3 0, .ref 157, .bool Bool.true, .int 181 0, .ref 158, .none, .ref 159, .ref 160, .ref 161, .int 395 0, .int 102 0, .str "/claim/cut.py" 396] }) ::
  (nat_lit 163, { cls := .type "function", dict := .none, data := .func (PySem.W.fnOf ("live") ("Grammar.live") (L2.defArgs s_Grammar_live) (L2.defBody s_Grammar_live) (L2.defScope s_Grammar_live) .none .none .none (.str "scoreflow.grammar" 341) .none (.ref 162) .none), slots := #[] }) ::
  (nat_lit 165, { cls := .type "dict", data := .dict #[en P "__module__" 356 (.str "scoreflow.grammar" 341), en P "__firstlineno__" 360 (.int 82 359), en P "__init__" 369 (.ref 135), en P "start" 376 (.ref 142), en P "rules" 383 (.ref 149), en P "heads" 390 (.ref 156), en P "live" 397 (.ref 163), en P "__static_attributes__" 402 (.ref 164), en P "__dict__" 404 (.ref 167), en P "__weakref__" 406 (.ref 168), en P "__doc__" 407 (.none)] 4 }) ::
  (nat_lit 166, { cls := .type "type", data := .cls { name := "Grammar", bases := [.type "object"], mro := [.ref 166, .type "object"], ns := 165, qualname := "Grammar" }, slots := #[.none, .none, .some (.str "Grammar" 349), .some (.str "Grammar" 357), .some (.builtin "object.__new__"), .some (.bool Bool.true)] }) ::
  (nat_lit 167, { cls := .type "getset_descriptor", data := .fields #[.str "__dict__" 403, .ref 166, .builtin "function.__dict__", .builtin "function.__dict__#set"] }) ::
  (nat_lit 168, { cls := .type "getset_descriptor", data := .fields #[.str "__weakref__" 405, .ref 166, .builtin "ExceptionGroup.__weakref__", .none] }) ::
  (nat_lit 176, { cls := .type "code", data := .fields #[.str "check_rules" 410, .str "check_rules" 411, .str "/claim/cut.py" 412, .int 104 0, .int 1 0, .int 0 0, .int 0 0, .int 3 0, .ref 171, .bool Bool.true, .int 181 0, .ref 172, .none, .ref 173, .ref 174, .ref 175, .int 416 0, .int 104 0, .str "/claim/cut.py" 417] }) ::
  (nat_lit 177, { cls := .type "function", dict := .none, data := .func (PySem.W.fnOf ("check_rules") ("check_rules") (L2.defArgs s_check_rules) (L2.defBody s_check_rules) (L2.defScope s_check_rules) .none .none .none (.str "scoreflow.grammar" 341) .none (.ref 176) .none), slots := #[] }) ::
  (nat_lit 183, { cls := .type "code", data := .fields #[.str "check_rule" 419, .str "check_rule" 420, .str "/claim/cut.py" 421, .int 113 0, .int 1 0, .int 0 0, .int 0 0, .int 3 0, .ref 178, .bool Bool.true, .int 181 0, .ref 179, .none, .ref 180, .ref 181, .ref 182, .int 424 0, .int 113 0, .str "/claim/cut.py" 425] }) ::
  (nat_lit 184, { cls := .type "function", dict := .none, data := .func (PySem.W.fnOf ("check_rule") ("check_rule") (L2.defArgs s_check_rule) (L2.defBody s_check_rule) (L2.defScope s_check_rule) .none .none .none (.str "scoreflow.grammar" 341) .none (.ref 183) .none), slots := #[] }) ::
  (nat_lit 190, { cls := .type "code", data := .fields #[.str "check_symbol" 427, .str "check_symbol" 428, .str "/claim/cut.py" 429, .int 121 0, .int 1 0, .int 0 0, .int 0 0, .int 3 0, .ref 185, .bool Bool.true, .int 181 0, .ref 186, .none, .ref 187, .ref 188, .ref 189, .int 431 0, .int 121 0, .str "/claim/cut.py" 432] }) ::
  (nat_lit 191, { cls := .type "function", dict := .none, data := .func (PySem.W.fnOf ("check_symbol") ("check_symbol") (L2.defArgs s_check_symbol) (L2.defBody s_check_symbol) (L2.defScope s_check_symbol) .none .none .none (.str "scoreflow.grammar" 341) .none (.ref 190) .none), slots := #[] }) ::
  (nat_lit 195, { cls := .type "code", data := .fields #[.str "is_symbol" 434, .str "is_symbol" 435, .str "/claim/cut.py" 436, .int 124 0, .int 1 0, .int 0 0, .int 0 0, .int 3 0, .ref 192, .bool Bool.true, .int 181 0, .ref 193, .none, .none, .none, .ref 194, .int 437 0, .int 124 0, .str "/claim/cut.py" 438] }) ::
  (nat_lit 196, { cls := .type "function", dict := .none, data := .func (PySem.W.fnOf ("is_symbol") ("is_symbol") (L2.defArgs s_is_symbol) (L2.defBody s_is_symbol) (L2.defScope s_is_symbol) .none .none .none (.str "scoreflow.grammar" 341) .none (.ref 195) .none), slots := #[] }) ::
  (nat_lit 202, { cls := .type "code", data := .fields #[.str "is_letter" 440, .str "is_letter" 441, .str "/claim/cut.py" 442, .int 126 0, .int 1 0, .int 0 0, .int 0 0, .int 3 0, .ref 197, .bool Bool.true, .int 181 0, .ref 198, .none, .ref 199, .ref 200, .ref 201, .int 444 0, .int 126 0, .str "/claim/cut.py" 445] }) ::
  (nat_lit 203, { cls := .type "function", dict := .none, data := .func (PySem.W.fnOf ("is_letter") ("is_letter") (L2.defArgs s_is_letter) (L2.defBody s_is_letter) (L2.defScope s_is_letter) .none .none .none (.str "scoreflow.grammar" 341) .none (.ref 202) .none), slots := #[] }) ::
  (nat_lit 209, { cls := .type "code", data := .fields #[.str "check_start" 447, .str "check_start" 448, .str "/claim/cut.py" 449, .int 128 0, .int 2 0, .int 0 0, .int 0 0, .int 3 0, .ref 204, .bool Bool.true, .int 181 0, .ref 205, .none, .ref 206, .ref 207, .ref 208, .int 452 0, .int 128 0, .str "/claim/cut.py" 453] }) ::
  (nat_lit 210, { cls := .type "function", dict := .none, data := .func (PySem.W.fnOf ("check_start") ("check_start") (L2.defArgs s_check_start) (L2.defBody s_check_start) (L2.defScope s_check_start) .none .none .none (.str "scoreflow.grammar" 341) .none (.ref 209) .none), slots := #[] }) ::
  (nat_lit 216, { cls := .type "code", data := .fields #[.str "check_sums" 455, .str "check_sums" 456, .str "/claim/cut.py" 457, .int 131 0, .int 2 0, .int 0 0, .int 0 0, .int 3 0, .ref 211, .bool Bool.true, .int 181 0, .ref 212, .none, .ref 213, .ref 214, .ref 215, .int 463 0, .int 131 0, .str "/claim/cut.py" 464] }) ::
  (nat_lit 217, { cls := .type "function", dict := .none, data := .func (PySem.W.fnOf ("check_sums") ("check_sums") (L2.defArgs s_check_sums) (L2.defBody s_check_sums) (L2.defScope s_check_sums) .none .none .none (.str "scoreflow.grammar" 341) .none (.ref 216) .none), slots := #[] }) ::
  (nat_lit 223, { cls := .type "code", data := .fields #[.str "heads_of" 466, .str "heads_of" 467, .str "/claim/cut.py" 468, .int 139 0, .int 1 0, .int 0 0, .int 0 0, .int 3 0, .ref 218, .bool Bool.true, .int 181 0, .ref 219, .none, .ref 220, .ref 221, .ref 222, .int 472 0, .int 139 0, .str "/claim/cut.py" 473] }) ::
  (nat_lit 224, { cls := .type "function", dict := .none, data := .func (PySem.W.fnOf ("heads_of") ("heads_of") (L2.defArgs s_heads_of) (L2.defBody s_heads_of) (L2.defScope s_heads_of) .none .none .none (.str "scoreflow.grammar" 341) .none (.ref 223) .none), slots := #[] }) ::
  (nat_lit 228, { cls := .type "code", data := .fields #[.str "live_of" 475, .str "live_of" 476, .str "/claim/cut.py" 477, .int 145 0, .int 2 0, .int 0 0, .int 0 0, .int 3 0, .ref 225, .bool Bool.true, .int 181 0, .ref 226, .none, .none, .none, .ref 227, .int 478 0, .int 145 0, .str "/claim/cut.py" 479] }) ::
  (nat_lit 229, { cls := .type "function", dict := .none, data := .func (PySem.W.fnOf ("live_of") ("live_of") (L2.defArgs s_live_of) (L2.defBody s_live_of) (L2.defScope s_live_of) .none .none .none (.str "scoreflow.grammar" 341) .none (.ref 228) .none), slots := #[] }) ::
  (nat_lit 233, { cls := .type "code", data := .fields #[.str "has_live_body" 481, .str "has_live_body" 482, .str "/claim/cut.py" 483, .int 153 0, .int 4 0, .int 0 0, .int 0 0, .int 3 0, .ref 230, .bool Bool.true, .int 181 0, .ref 231, .none, .none, .none, .ref 232, .int 484 0, .int 153 0, .str "/claim/cut.py" 485] }) ::
  (nat_lit 234, { cls := .type "function", dict := .none, data := .func (PySem.W.fnOf ("has_live_body") ("has_live_body") (L2.defArgs s_has_live_body) (L2.defBody s_has_live_body) (L2.defScope s_has_live_body) .none .none .none (.str "scoreflow.grammar" 341) .none (.ref 233) .none), slots := #[] }) ::
  (nat_lit 238, { cls := .type "code", data := .fields #[.str "is_live_body" 487, .str "is_live_body" 488, .str "/claim/cut.py" 489, .int 155 0, .int 3 0, .int 0 0, .int 0 0, .int 3 0, .ref 235, .bool Bool.true, .int 181 0, .ref 236, .none, .none, .none, .ref 237, .int 490 0, .int 155 0, .str "/claim/cut.py" 491] }) ::
  (nat_lit 239, { cls := .type "function", dict := .none, data := .func (PySem.W.fnOf ("is_live_body") ("is_live_body") (L2.defArgs s_is_live_body) (L2.defBody s_is_live_body) (L2.defScope s_is_live_body) .none .none .none (.str "scoreflow.grammar" 341) .none (.ref 238) .none), slots := #[] }) ::
  (nat_lit 245, { cls := .type "code", data := .fields #[.str "_law_cell_at" 495, .str "_law_cell_at" 496, .str "/claim/cut.py" 497, .int 158 0, .int 2 0, .int 0 0, .int 0 0, .int 3 0, .ref 240, .bool Bool.true, .int 181 0, .ref 241, .none, .ref 242, .ref 243, .ref 244, .int 500 0, .int 158 0, .str "/claim/cut.py" 501] }) ::
  (nat_lit 246, { cls := .type "function", dict := .none, data := .func (PySem.W.fnOf ("_law_cell_at") ("_law_cell_at") (L2.defArgs s_law_cell_at) (L2.defBody s_law_cell_at) (L2.defScope s_law_cell_at) .none .none .none (.str "law_scoreflow_k06_trees" 493) .none (.ref 245) .none), slots := #[] }) ::
  (nat_lit 252, { cls := .type "code", data := .fields #[.str "_law_dice" 503, .str "_law_dice" 504, .str "/claim/cut.py" 505, .int 162 0, .int 1 0, .int 0 0, .int 0 0, .int 3 0, .ref 247, .bool Bool.true, .int 181 0, .ref 248, .none, .ref 249, .ref 250, .ref 251, .int 507 0, .int 162 0, .str "/claim/cut.py" 508] }) ::
  (nat_lit 253, { cls := .type "function", dict := .none, data := .func (PySem.W.fnOf ("_law_dice") ("_law_dice") (L2.defArgs s_law_dice) (L2.defBody s_law_dice) (L2.defScope s_law_dice) .none .none .none (.str "law_scoreflow_k06_trees" 493) .none (.ref 252) .none), slots := #[] }) ::
  (nat_lit 259, { cls := .type "code", data := .fields #[.str "_law_roll" 510, .str "_law_roll" 511, .str "/claim/cut.py" 512, .int 164 0, .int 2 0, .int 0 0, .int 0 0, .int 3 0, .ref 254, .bool Bool.true, .int 181 0, .ref 255, .none, .ref 256, .ref 257, .ref 258, .int 515 0, .int 164 0, .str "/claim/cut.py" 516] }) ::
  (nat_lit 260, { cls := .type "function", dict := .none, data := .func (PySem.W.fnOf ("_law_roll") ("_law_roll") (L2.defArgs s_law_roll) (L2.defBody s_law_roll) (L2.defScope s_law_roll) .none .none .none (.str "law_scoreflow_k06_trees" 493) .none (.ref 259) .none), slots := #[] }) ::
  (nat_lit 266, { cls := .type "code", data := .fields #[.str "_law_whole" 518, .str "_law_whole" 519, .str "/claim/cut.py" 520, .int 167 0, .int 1 0, .int 0 0, .int 0 0, .int 3 0, .ref 261, .bool Bool.true, .int 181 0, .ref 262, .none, .ref 263, .ref 264, .ref 265, .int 522 0, .int 167 0, .str "/claim/cut.py" 523] }) ::
  (nat_lit 267, { cls := .type "function", dict := .none, data := .func (PySem.W.fnOf ("_law_whole") ("_law_whole") (L2.defArgs s_law_whole) (L2.defBody s_law_whole) (L2.defScope s_law_whole) .none .none .none (.str "law_scoreflow_k06_trees" 493) .none (.ref 266) .none), slots := #[] }) ::
  (nat_lit 273, { cls := .type "code", data := .fields #[.str "_law_symbols" 525, .str "_law_symbols" 526, .str "/claim/cut.py" 527, .int 169 0, .int 2 0, .int 0 0, .int 0 0, .int 3 0, .ref 268, .bool Bool.true, .int 181 0, .ref 269, .none, .ref 270, .ref 271, .ref 272, .int 538 0, .int 169 0, .str "/claim/cut.py" 539] }) ::
  (nat_lit 274, { cls := .type "function", dict := .none, data := .func (PySem.W.fnOf ("_law_symbols") ("_law_symbols") (L2.defArgs s_law_symbols) (L2.defBody s_law_symbols) (L2.defScope s_law_symbols) .none .none .none (.str "law_scoreflow_k06_trees" 493) .none (.ref 273) .none), slots := #[] }) ::
  (nat_lit 280, { cls := .type "code", data := .fields #[.str "_law_share" 541, .str "_law_share" 542, .str "/claim/cut.py" 543, .int 183 0, .int 2 0, .int 0 0, .int 0 0, .int 3 0, .ref 275, .bool Bool.true, .int 181 0, .ref 276, .none, .ref 277, .ref 278, .ref 279, .int 549 0, .int 183 0, .str "/claim/cut.py" 550] }) ::
  (nat_lit 281, { cls := .type "function", dict := .none, data := .func (PySem.W.fnOf ("_law_share") ("_law_share") (L2.defArgs s_law_share) (L2.defBody s_law_share) (L2.defScope s_law_share) .none .none .none (.str "law_scoreflow_k06_trees" 493) .none (.ref 280) .none), slots := #[] }) ::
  (nat_lit 294, { cls := .type "code", data := .fields #[.str "_law_timed" 560, .str "_law_timed" 561, .str "/claim/cut.py" 562, .int 193 0, .int 2 0, .int 0 0, .int 0 0, .int 3 0, .ref 289, .bool Bool.true, .int 181 0, .ref 290, .none, .ref 291, .ref 292, .ref 293, .int 565 0, .int 193 0, .str "/claim/cut.py" 566] }) ::
  (nat_lit 295, { cls := .type "function", dict := .none, data := .func (PySem.W.fnOf ("_law_timed") ("_law_timed") (L2.defArgs s_law_timed) (L2.defBody s_law_timed) (L2.defScope s_law_timed) .none .none .none (.str "law_scoreflow_k06_trees" 493) .none (.ref 294) .none), slots := #[] }) ::
  (nat_lit 301, { cls := .type "code", data := .fields #[.str "_law_is_share" 568, .str "_law_is_share" 569, .str "/claim/cut.py" 570, .int 195 0, .int 1 0, .int 0 0, .int 0 0, .int 3 0, .ref 296, .bool Bool.true, .int 181 0, .ref 297, .none, .ref 298, .ref 299, .ref 300, .int 572 0, .int 195 0, .str "/claim/cut.py" 573] }) ::
  (nat_lit 302, { cls := .type "function", dict := .none, data := .func (PySem.W.fnOf ("_law_is_share") ("_law_is_share") (L2.defArgs s_law_is_share) (L2.defBody s_law_is_share) (L2.defScope s_law_is_share) .none .none .none (.str "law_scoreflow_k06_trees" 493) .none (.ref 301) .none), slots := #[] }) ::
  (nat_lit 308, { cls := .type "code", data := .fields #[.str "_law_bodies" 575, .str "_law_bodies" 576, .str "/claim/cut.py" 577, .int 199 0, .int 4 0, .int 0 0, .int 0 0, .int 3 0, .ref 303, .bool Bool.true, .int 181 0, .ref 304, .none, .ref 305, .ref 306, .ref 307, .int 587 0, .int 199 0, .str "/claim/cut.py" 588] }) ::
  (nat_lit 309, { cls := .type "function", dict := .none, data := .func (PySem.W.fnOf ("_law_bodies") ("_law_bodies") (L2.defArgs s_law_bodies) (L2.defBody s_law_bodies) (L2.defScope s_law_bodies) .none .none .none (.str "law_scoreflow_k06_trees" 493) .none (.ref 308) .none), slots := #[] }) ::
  (nat_lit 313, { cls := .type "code", data := .fields #[.str "_law_rules" 590, .str "_law_rules" 591, .str "/claim/cut.py" 592, .int 211 0, .int 3 0, .int 0 0, .int 0 0, .int 3 0, .ref 310, .bool Bool.true, .int 181 0, .ref 311, .none, .none, .none, .ref 312, .int 593 0, .int 211 0, .str "/claim/cut.py" 594] }) ::
  (nat_lit 314, { cls := .type "function", dict := .none, data := .func (PySem.W.fnOf ("_law_rules") ("_law_rules") (L2.defArgs s_law_rules) (L2.defBody s_law_rules) (L2.defScope s_law_rules) .none .none .none (.str "law_scoreflow_k06_trees" 493) .none (.ref 313) .none), slots := #[] }) ::
  (nat_lit 320, { cls := .type "code", data := .fields #[.str "_law_made" 596, .str "_law_made" 597, .str "/claim/cut.py" 598, .int 219 0, .int 3 0, .int 0 0, .int 0 0, .int 3 0, .ref 315, .bool Bool.true, .int 181 0, .ref 316, .none, .ref 317, .ref 318, .ref 319, .int 606 0, .int 219 0, .str "/claim/cut.py" 607] }) ::
  (nat_lit 321, { cls := .type "function", dict := .none, data := .func (PySem.W.fnOf ("_law_made") ("_law_made") (L2.defArgs s_law_made) (L2.defBody s_law_made) (L2.defScope s_law_made) .none .none .none (.str "law_scoreflow_k06_trees" 493) .none (.ref 320) .none), slots := #[] }) ::
  (nat_lit 325, { cls := .type "code", data := .fields #[.str "_law_tree" 609, .str "_law_tree" 610, .str "/claim/cut.py" 611, .int 225 0, .int 4 0, .int 0 0, .int 0 0, .int 3 0, .ref 322, .bool Bool.true, .int 181 0, .ref 323, .none, .none, .none, .ref 324, .int 612 0, .int 225 0, .str "/claim/cut.py" 613] }) ::
  (nat_lit 326, { cls := .type "function", dict := .none, data := .func (PySem.W.fnOf ("_law_tree") ("_law_tree") (L2.defArgs s_law_tree) (L2.defBody s_law_tree) (L2.defScope s_law_tree) .none .none .none (.str "law_scoreflow_k06_trees" 493) .none (.ref 325) .none), slots := #[] }) ::
  (nat_lit 332, { cls := .type "code", data := .fields #[.str "_law_words" 615, .str "_law_words" 616, .str "/claim/cut.py" 617, .int 243 0, .int 1 0, .int 0 0, .int 0 0, .int 3 0, .ref 327, .bool Bool.true, .int 181 0, .ref 328, .none, .ref 329, .ref 330, .ref 331, .int 621 0, .int 243 0, .str "/claim/cut.py" 622] }) ::
  (nat_lit 333, { cls := .type "function", dict := .none, data := .func (PySem.W.fnOf ("_law_words") ("_law_words") (L2.defArgs s_law_words) (L2.defBody s_law_words) (L2.defScope s_law_words) .none .none .none (.str "law_scoreflow_k06_trees" 493) .none (.ref 332) .none), slots := #[] }) ::
  (nat_lit 339, { cls := .type "code", data := .fields #[.str "_law_share_of" 624, .str "_law_share_of" 625, .str "/claim/cut.py" 626, .int 250 0, .int 2 0, .int 0 0, .int 0 0, .int 3 0, .ref 334, .bool Bool.true, .int 181 0, .ref 335, .none, .ref 336, .ref 337, .ref 338, .int 631 0, .int 250 0, .str "/claim/cut.py" 632] }) ::
  (nat_lit 340, { cls := .type "function", dict := .none, data := .func (PySem.W.fnOf ("_law_share_of") ("_law_share_of") (L2.defArgs s_law_share_of) (L2.defBody s_law_share_of) (L2.defScope s_law_share_of) .none .none .none (.str "law_scoreflow_k06_trees" 493) .none (.ref 339) .none), slots := #[] }) ::
  (nat_lit 344, { cls := .type "code", data := .fields #[.str "_law_is_tree" 634, .str "_law_is_tree" 635, .str "/claim/cut.py" 636, .int 257 0, .int 3 0, .int 0 0, .int 0 0, .int 3 0, .ref 341, .bool Bool.true, .int 181 0, .ref 342, .none, .none, .none, .ref 343, .int 637 0, .int 257 0, .str "/claim/cut.py" 638] }) ::
  (nat_lit 345, { cls := .type "function", dict := .none, data := .func (PySem.W.fnOf ("_law_is_tree") ("_law_is_tree") (L2.defArgs s_law_is_tree) (L2.defBody s_law_is_tree) (L2.defScope s_law_is_tree) .none .none .none (.str "law_scoreflow_k06_trees" 493) .none (.ref 344) .none), slots := #[] }) ::
  (nat_lit 351, { cls := .type "code", data := .fields #[.str "_law_spoilt" 640, .str "_law_spoilt" 641, .str "/claim/cut.py" 642, .int 271 0, .int 3 0, .int 0 0, .int 0 0, .int 3 0, .ref 346, .bool Bool.true, .int 181 0, .ref 347, .none, .ref 348, .ref 349, .ref 350, .int 650 0, .int 271 0, .str "/claim/cut.py" 651] }) ::
  (nat_lit 352, { cls := .type "function", dict := .none, data := .func (PySem.W.fnOf ("_law_spoilt") ("_law_spoilt") (L2.defArgs s_law_spoilt) (L2.defBody s_law_spoilt) (L2.defScope s_law_spoilt) .none .none .none (.str "law_scoreflow_k06_trees" 493) .none (.ref 351) .none), slots := #[] }) ::
  (nat_lit 358, { cls := .type "code", data := .fields #[.str "law" 653, .str "law" 654, .str "/claim/cut.py" 655, .int 291 0, .int 1 0, .int 0 0, .int 0 0, .int 3 0, .ref 353, .bool Bool.true, .int 181 0, .ref 354, .none, .ref 355, .ref 356, .ref 357, .int 667 0, .int 291 0, .str "/claim/cut.py" 668] }) ::
  (nat_lit 359, { cls := .type "function", dict := .none, data := .func (PySem.W.fnOf ("law") ("law") (L2.defArgs s_law) (L2.defBody s_law) (L2.defScope s_law) .none .none .none (.str "law_scoreflow_k06_trees" 493) .none (.ref 358) .none), slots := #[] }) :: []
def KA : List Addr := nat_lit 2 :: nat_lit 3 :: nat_lit 23 :: nat_lit 24 :: nat_lit 25 :: nat_lit 36 :: nat_lit 37 :: nat_lit 48 :: nat_lit 49 :: nat_lit 52 :: nat_lit 53 :: nat_lit 59 :: nat_lit 60 :: nat_lit 66 :: nat_lit 67 :: nat_lit 73 :: nat_lit 74 :: nat_lit 80 :: nat_lit 81 :: nat_lit 87 :: nat_lit 88 :: nat_lit 94 :: nat_lit 95 :: nat_lit 99 :: nat_lit 100 :: nat_lit 106 :: nat_lit 107 :: nat_lit 113 :: nat_lit 114 :: nat_lit 120 :: nat_lit 121 :: nat_lit 134 :: nat_lit 135 :: nat_lit 141 :: nat_lit 142 :: nat_lit 148 :: nat_lit 149 :: nat_lit 155 :: nat_lit 156 :: nat_lit 162 :: nat_lit 163 :: nat_lit 165 :: nat_lit 166 :: nat_lit 167 :: nat_lit 168 :: nat_lit 176 :: nat_lit 177 :: nat_lit 183 :: nat_lit 184 :: nat_lit 190 :: nat_lit 191 :: nat_lit 195 :: nat_lit 196 :: nat_lit 202 :: nat_lit 203 :: nat_lit 209 :: nat_lit 210 :: nat_lit 216 :: nat_lit 217 :: nat_lit 223 :: nat_lit 224 :: nat_lit 228 :: nat_lit 229 :: nat_lit 233 :: nat_lit 234 :: nat_lit 238 :: nat_lit 239 :: nat_lit 245 :: nat_lit 246 :: nat_lit 252 :: nat_lit 253 :: nat_lit 259 :: nat_lit 260 :: nat_lit 266 :: nat_lit 267 :: nat_lit 273 :: nat_lit 274 :: nat_lit 280 :: nat_lit 281 :: nat_lit 294 :: nat_lit 295 :: nat_lit 301 :: nat_lit 302 :: nat_lit 308 :: nat_lit 309 :: nat_lit 313 :: nat_lit 314 :: nat_lit 320 :: nat_lit 321 :: nat_lit 325 :: nat_lit 326 :: nat_lit 332 :: nat_lit 333 :: nat_lit 339 :: nat_lit 340 :: nat_lit 344 :: nat_lit 345 :: nat_lit 351 :: nat_lit 352 :: nat_lit 358 :: nat_lit 359 :: []
theorem KE : ∀ P, KA = (KP P).map (·.1) := fun _ => by kernel_rfl
def view : Program := { PySem.Challenge.pw_scoreflow_k06_trees with main := { PySem.Challenge.pw_scoreflow_k06_trees.main with body := [top 1, top 2, top 3, top 5, top 6, top 7, top 8, top 9, top 10, top 12, top 13, top 14, top 15, top 16, top 17, top 19, top 20, top 21, top 22, top 23, top 24, top 25, top 26, top 27, top 28, top 29, top 30, top 31, top 32, top 33, top 35, top 36, top 37, top 38, top 39, top 40, top 41, top 42, top 43, top 44, top 45, top 46, top 47, top 48, top 49, top 50, top 51, top 52] } }
set_option maxHeartbeats 0 in
theorem hl : PySem.W.LeftO PySem.Challenge.pw_scoreflow_k06_trees view [] (fun s => PySem.W.xlAt view [] s && PySem.W.recOk [] s) (PySem.W.kHook KP KA KE).obs (PySem.W.kHook KP KA KE).val 4626 := by intro w; kernel_rfl
end Law
namespace L2
open PySem PySem.Spec PyProof.Rows
abbrev Key := Sum Int Str
def keyIs : Key → Value → Bool
  | .inl k, v => Value.isInt k v
  | .inr x, v => Value.isStrOf x v
def keyH (w : World) : Key → Int
  | .inl k => hashInt k
  | .inr x => hashStr w x
theorem keyIs_shape : ∀ {k : Key} {v : Value}, keyIs k v = true → (∃ i t, k = Sum.inl i ∧ v = Value.int i t) ∨ (∃ x t, k = Sum.inr x ∧ v = Value.str x t)
  | .inl i, v, h => by
    obtain ⟨t, e⟩ := Value.isInt_shape (k := i) (v := v) h
    exact .inl ⟨i, t, rfl, e⟩
  | .inr x, v, h => by
    obtain ⟨t, e⟩ := Value.isStrOf_shape (x := x) (v := v) h
    exact .inr ⟨x, t, rfl, e⟩
theorem key_ll (a b : Int) : decide ((Sum.inl a : Key) = Sum.inl b) = (a == b) := by
  by_cases e : a = b
  · subst e; simp
  · have h : ¬ (Sum.inl a : Key) = Sum.inl b := fun q => e (Sum.inl.inj q)
    rw [decide_eq_false h]
    exact (beq_eq_false_iff_ne.mpr e).symm
theorem key_rr (a b : Str) : decide ((Sum.inr a : Key) = Sum.inr b) = decide (a = b) := by
  by_cases e : a = b
  · subst e; simp
  · have h : ¬ (Sum.inr a : Key) = Sum.inr b := fun q => e (Sum.inr.inj q)
    rw [decide_eq_false h, decide_eq_false e]
theorem key_lr (a : Int) (b : Str) : decide ((Sum.inl a : Key) = Sum.inr b) = false := decide_eq_false (fun q => nomatch q)
theorem key_rl (a : Str) (b : Int) : decide ((Sum.inr a : Key) = Sum.inl b) = false := decide_eq_false (fun q => nomatch q)
def mixKind (prog : Program) (w : World) : PySem.KeyKind prog w Key where
  is := keyIs
  hash := keyH w
  inj := fun v a b ha hb => by
    rcases keyIs_shape ha with ⟨i, t, rfl, rfl⟩ | ⟨x, t, rfl, rfl⟩
    · rcases keyIs_shape hb with ⟨j, u, rfl, e⟩ | ⟨y, u, rfl, e⟩
      · injection e with e1 _; rw [e1]
      · exact nomatch e
    · rcases keyIs_shape hb with ⟨j, u, rfl, e⟩ | ⟨y, u, rfl, e⟩
      · exact nomatch e
      · injection e with e1 _; rw [e1]
  byValue := fun k v h => by
    rcases keyIs_shape h with ⟨i, t, rfl, rfl⟩ | ⟨x, t, rfl, rfl⟩ <;> rfl
  pyHash := fun hv h => by
    rcases keyIs_shape hv with ⟨i, t, rfl, rfl⟩ | ⟨x, t, rfl, rfl⟩
    · exact wpAny_pyHash_int h
    · exact wpAny_pyHash_str h
  eqBool := fun hu hv h => by
    rcases keyIs_shape hu with ⟨i, t, rfl, rfl⟩ | ⟨x, t, rfl, rfl⟩
    · rcases keyIs_shape hv with ⟨j, u, rfl, rfl⟩ | ⟨y, u, rfl, rfl⟩
      · rw [key_ll] at h; exact wpAny_eqBool_int h
      · rw [key_lr] at h; exact SeqAt.EqAt.int_str i t y u _ _ _ _ h
    · rcases keyIs_shape hv with ⟨j, u, rfl, rfl⟩ | ⟨y, u, rfl, rfl⟩
      · rw [key_rl] at h; exact SeqAt.EqAt.str_int x t j u _ _ _ _ h
      · rw [key_rr] at h; exact wpAny_eqBool_str h
  «strs» := fun k x t v h => by
    rcases keyIs_shape h with ⟨i, u, rfl, e⟩ | ⟨y, u, rfl, e⟩
    · exact nomatch e
    · injection e with e1 _
      subst e1
      cases v <;> rfl
end L2
namespace L2
open PySem PySem.Spec PyProof.Rows
inductive V where
  | non | bl (b : Bool) | int (i : Int) | str (x : Str) | byt (b : Array UInt8) | flt (b : UInt64) | ref (a : Addr) | ty (n : String)
  deriving DecidableEq
def RelV : V → Value → Prop
  | .non, u => u = Value.none
  | .bl b, u => u = Value.bool b
  | .int i, u => ∃ t, u = Value.int i t
  | .str x, u => ∃ t, u = Value.str x t
  | .byt b, u => ∃ t, u = Value.bytes b t
  | .flt b, u => ∃ t, u = Value.float b t
  | .ref a, u => u = Value.ref a
  | .ty n, u => u = Value.type n
abbrev Vals : List V → List Value → Prop := Paired RelV
theorem Vals.length {xs : List V} {us : List Value} (r : Vals xs us) : xs.length = us.length := Paired.length r
theorem Vals.get : ∀ {xs : List V} {us : List Value} {i : Nat} {x : V}, Vals xs us → xs[i]? = some x → ∃ u, us[i]? = some u ∧ RelV x u
  | _, _, _, _, .nil, e => by simp at e
  | _, _, 0, _, .cons r _, e => by simp at e; subst e; exact ⟨_, rfl, r⟩
  | _, _, i + 1, x, .cons _ t, e => by
    obtain ⟨u, h1, h2⟩ := Vals.get (i := i) (x := x) t (by simpa using e)
    exact ⟨u, by simpa using h1, h2⟩
theorem Vals.set {x : V} {u : Value} (r : RelV x u) : ∀ {xs : List V} {us : List Value} (i : Nat), Vals xs us → Vals (xs.set i x) (us.set i u)
  | _, _, _, .nil => .nil
  | _, _, 0, .cons _ t => .cons r t
  | _, _, i + 1, .cons q t => .cons q (Vals.set r i t)
theorem Vals.append : ∀ {xs ys : List V} {us ws : List Value}, Vals xs us → Vals ys ws → Vals (xs ++ ys) (us ++ ws)
  | _, _, _, _, .nil, s => s
  | _, _, _, _, .cons r t, s => .cons r (Vals.append t s)
theorem Vals.take : ∀ {xs : List V} {us : List Value} (n : Nat), Vals xs us → Vals (xs.take n) (us.take n)
  | _, _, 0, _ => .nil
  | _, _, _ + 1, .nil => .nil
  | _, _, n + 1, .cons r t => .cons r (Vals.take n t)
theorem Vals.drop : ∀ {xs : List V} {us : List Value} (n : Nat), Vals xs us → Vals (xs.drop n) (us.drop n)
  | _, _, 0, r => r
  | _, _, _ + 1, .nil => .nil
  | _, _, n + 1, .cons _ t => Vals.drop n t
def RelO : Option V → Option Value → Prop
  | some v, some u => RelV v u
  | none, none => True
  | _, _ => False
def KV {κ : Type} : List (κ × V) → List (κ × Value) → Prop := Paired fun (p : κ × V) (q : κ × Value) => p.1 = q.1 ∧ RelV p.2 q.2
def kV : Key → V
  | .inl i => .int i
  | .inr x => .str x
inductive HO where
  /-- a list -/
  | lst (xs : List V)
  /-- a tuple (never changes) -/
  | tup (xs : List V)
  /-- a dict whose keys are ints and texts; one whose keys are tuples of ints and texts (the empty one is both) -/
  | dK (kvs : List (Key × V)) | dT (kvs : List (List Key × V))
  /-- a set of ints: its members, its size -/
  | set (S : Int → Bool) (n : Nat)
  /-- an instance of the class at C, its dict at dx, its attributes -/
  | ins (C dx : Addr) (fs : List (Str × V))
  /-- the dict of the instance at x -/
  | own (x : Addr)
  /-- the dict of an exception -/
  | xd (fs : List (Str × V))
  /-- a bound method, f of x -/
  | met (f x : Addr)
  /-- a range object lo, lo + 1, .. below hi -/
  | rng (lo hi : Int)
  /-- a thing that is known to the object (the script; a dict while a loop walks it): read, never written while it is so -/
  | frz (o : Obj) (u : HO)
  /-- a code object's table -/
  | tbl (ps : Array Value)
  /-- any other thing, by what is true of its one object (a def of one's own: SetO a S n := HO.ext fun h => ..) -/
  | ext (φ : Heap → Prop)
abbrev Hp := Addr → Option HO
def upd (H : Hp) (a : Addr) (o : HO) : Hp := fun b => if b = a then some o else H b
theorem upd_same {H : Hp} {a : Addr} {o : HO} : upd H a o a = some o := by unfold upd; rw [if_pos rfl]
theorem upd_ne {H : Hp} {a b : Addr} {o : HO} (h : b ≠ a) : upd H a o b = H b := by unfold upd; rw [if_neg h]
theorem ne_of_none {H : Hp} {a b : Addr} {o : HO} (h : H a = some o) (h' : H b = none) : a ≠ b := by
  intro e; subst e; rw [h] at h'; cases h'
section
variable (P : Program) (w : World)
def ObjOk (H : Hp) (h : Heap) (a : Addr) : HO → Prop
  | .lst xs => xs.length ≤ sizeLine ∧ ∃ (its : List Value) (n : Nat), Vals xs its ∧ h.get? a = some { cls := .type "list", data := .seq its.toArray n }
  | .tup xs => xs.length ≤ sizeLine ∧ ∃ its : List Value, Vals xs its ∧ IsTup h a its.toArray
  | .dK kvs => kvs.length ≤ sizeLine ∧ (a == sysModules) = false ∧ ∃ vs, KV kvs vs ∧ h.DictOf (mixKind P w) a vs
  | .dT kvs => kvs.length ≤ sizeLine ∧ (a == sysModules) = false ∧ ∃ xs : List (List Key × Addr × Value),
      Paired (fun (p : List Key × V) (q : List Key × Addr × Value) => p.1 = q.1 ∧ H q.2.1 = some (.tup (p.1.map kV)) ∧ RelV p.2 q.2.2) kvs xs ∧
      ∃ o es ep, h.get? a = some o ∧ o.ExactDict ∧ o.data = .dict es ep ∧ es.toList = xs.map (entryOfKey (tupleKind (mixKind P w))) ∧ (xs.map (·.1)).Nodup
  | .set S n => h.SetOf (intKind P w) a S n
  | .ins C dx fs => H dx = some (.own a) ∧ fs.length ≤ 1000 ∧ dx ≠ a ∧ h.get? a = some (PySem.W.instObj C dx) ∧
      ∃ mA, h.Ns1 dx mA ∧ (∀ f, RelO (fs.lookup f) (mA f)) ∧ PySem.Within mA (fs.map (·.1))
  | .own _ => ∃ o, h.get? a = some o
  | .xd fs => ∃ mA, h.Ns1 a mA ∧ ∀ f, RelO (fs.lookup f) (mA f)
  | .rng lo hi => ∃ t u v, h.get? a = some { cls := .type "range", data := .fields #[.int lo t, .int hi u, .int 1 v] }
  | .frz o u => h.get? a = some o ∧ ObjOk H h a u
  | .tbl ps => h.get? a = some { cls := .none, data := .fields ps }
  | .met f x => h.get? a = some (PySem.W.methodObj (.ref f) (.ref x))
  | .ext φ => φ h ∧ (∃ o, h.get? a = some o) ∧ ∀ h1 h2 : Heap, φ h1 → (∀ o, h1.get? a = some o → h2.get? a = some o) → φ h2
def HOk (H : Hp) (h : Heap) : Prop := ∀ a o, H a = some o → ObjOk P w H h a o
end
section
variable {P : Program} {w : World} {H H' : Hp} {h h' : Heap} {a : Addr} {o : HO}
theorem ObjOk.lt (x : ObjOk P w H h a o) : a < h.objs.size := by
  cases o with
  | lst xs => obtain ⟨_, _, _, _, e⟩ := x; exact Heap.lt_size e
  | tup xs => obtain ⟨_, _, _, p⟩ := x; exact p.lt
  | dK kvs => obtain ⟨_, _, _, _, o, _, _, e, _⟩ := x; exact Heap.lt_size e
  | dT kvs => obtain ⟨_, _, _, _, o, _, _, e, _⟩ := x; exact Heap.lt_size e
  | set S n => obtain ⟨o, _, _, _, e, _⟩ := x; exact Heap.lt_size e
  | ins C dx fs => obtain ⟨_, _, _, e, _⟩ := x; exact Heap.lt_size e
  | own y => obtain ⟨_, e⟩ := x; exact Heap.lt_size e
  | xd fs => obtain ⟨_, ⟨_, _, _, e, _⟩, _⟩ := x; exact Heap.lt_size e
  | rng lo hi => obtain ⟨_, _, _, e⟩ := x; exact Heap.lt_size e
  | frz ob u => obtain ⟨e, _⟩ := x; exact Heap.lt_size e
  | tbl ps => exact Heap.lt_size (show h.get? a = some _ from x)
  | met f y => exact Heap.lt_size (show h.get? a = some _ from x)
  | ext φ => obtain ⟨_, ⟨_, e⟩, _⟩ := x; exact Heap.lt_size e
theorem Paired.mapP {α β : Type} {F G : α → β → Prop} : ∀ {l₁ : List α} {l₂ : List β}, Paired F l₁ l₂ → (∀ a b, F a b → G a b) → Paired G l₁ l₂
  | _, _, .nil, _ => .nil
  | _, _, .cons r t, f => .cons (f _ _ r) (Paired.mapP t f)
theorem ObjOk.stay (x : ObjOk P w H h a o) (k : ∀ b u, (b = a ∨ H b = some (.own a)) → h.get? b = some u → h'.get? b = some u)
    (ho : ∀ b, H b = some (.own a) → H' b = some (.own a)) (ht : ∀ b xs, H b = some (.tup xs) → H' b = some (.tup xs)) : ObjOk P w H' h' a o := by
  induction o with
  | lst xs => obtain ⟨z, its, n, r, e⟩ := x; exact ⟨z, its, n, r, k _ _ (.inl rfl) e⟩
  | tup xs => obtain ⟨z, its, r, ob, e, c⟩ := x; exact ⟨z, its, r, ob, k _ _ (.inl rfl) e, c⟩
  | dK kvs => obtain ⟨z, y, vs, r, ob, es, ep, e, c⟩ := x; exact ⟨z, y, vs, r, ob, es, ep, k _ _ (.inl rfl) e, c⟩
  | dT kvs =>
    obtain ⟨z, y, xs, r, ob, es, ep, e, c⟩ := x
    exact ⟨z, y, xs, Paired.mapP r fun p q z => ⟨z.1, ht _ _ z.2.1, z.2.2⟩, ob, es, ep, k _ _ (.inl rfl) e, c⟩
  | set S n => obtain ⟨ob, es, ep, t, e, c⟩ := x; exact ⟨ob, es, ep, t, k _ _ (.inl rfl) e, c⟩
  | ins C dx fs =>
    obtain ⟨d, z, ne, e, mA, ⟨od, es, ep, e2, c⟩, r⟩ := x
    exact ⟨ho _ d, z, ne, k _ _ (.inl rfl) e, mA, ⟨od, es, ep, k _ _ (.inr d) e2, c⟩, r⟩
  | own y => obtain ⟨ob, e⟩ := x; exact ⟨ob, k _ _ (.inl rfl) e⟩
  | xd fs => obtain ⟨mA, ⟨od, es, ep, e, c⟩, r⟩ := x; exact ⟨mA, ⟨od, es, ep, k _ _ (.inl rfl) e, c⟩, r⟩
  | rng lo hi => obtain ⟨t, u, v, e⟩ := x; exact ⟨t, u, v, k _ _ (.inl rfl) e⟩
  | frz ob u ih => obtain ⟨e, q⟩ := x; exact ⟨k _ _ (.inl rfl) e, ih q⟩
  | tbl ps =>
    have e : h.get? a = some { cls := .none, data := .fields ps } := x
    show h'.get? a = some { cls := .none, data := .fields ps }
    exact k a _ (.inl rfl) e
  | met f y =>
    have e : h.get? a = some (PySem.W.methodObj (.ref f) (.ref y)) := x
    show h'.get? a = some (PySem.W.methodObj (.ref f) (.ref y))
    exact k a _ (.inl rfl) e
  | ext φ => obtain ⟨p, ⟨o, e⟩, st⟩ := x; exact ⟨st _ _ p fun o q => k _ _ (.inl rfl) q, ⟨o, k _ _ (.inl rfl) e⟩, st⟩
theorem HOk.lt (x : HOk P w H h) (e : H a = some o) : a < h.objs.size := (x a o e).lt
theorem HOk.fresh (x : HOk P w H h) (e : h.objs.size ≤ a) : H a = none := by
  cases q : H a with
  | none => rfl
  | some u => exact absurd (Nat.lt_of_lt_of_le (x.lt q) e) (Nat.lt_irrefl _)
theorem HOk.kept (x : HOk P w H h) (k : ∀ b u, h.get? b = some u → h'.get? b = some u) : HOk P w H h' := fun a o e =>
  (x a o e).stay (fun b u _ q => k b u q) (fun _ q => q) fun _ _ q => q
theorem HOk.laid (x : HOk P w H h) (k : ∀ b u, h.get? b = some u → h'.get? b = some u) (hp : h.objs.size ≤ a) (new : ObjOk P w (upd H a o) h' a o) : HOk P w (upd H a o) h' := fun b u e => by
  have hn := x.fresh hp
  by_cases hb : b = a
  · subst hb; rw [upd_same] at e; cases e; exact new
  · rw [upd_ne hb] at e
    exact (x b u e).stay (fun c v _ q => k c v q) (fun c q => by rw [upd_ne (ne_of_none q hn)]; exact q) fun c xs q => by rw [upd_ne (ne_of_none q hn)]; exact q
end
def Rd (H : Hp) (a : Addr) (u : HO) : Prop := H a = some u ∨ ∃ o, H a = some (.frz o u)
theorem Rd.ok {P : Program} {w : World} {H : Hp} {h : Heap} {a : Addr} {u : HO} (r : Rd H a u) (x : HOk P w H h) : ObjOk P w H h a u := by
  rcases r with r | ⟨o, r⟩
  · exact x a u r
  · obtain ⟨_, q⟩ := x a _ r
    exact q
def Mut : Option HO → Prop
  | some (.lst _) => True
  | some (.dK _) => True
  | some (.dT _) => True
  | some (.set _ _) => True
  | some (.ins _ _ _) => True
  | some (.ext _) => True
  | _ => False
section
variable {P : Program} {w : World} {H : Hp} {h h' : Heap} {x e : Addr} {o' : HO}
theorem HOk.write (ok : HOk P w H h) (mu : Mut (H x)) (he : e = x ∨ H e = some (.own x)) (k : ∀ b u, b ≠ e → h.get? b = some u → h'.get? b = some u) (heo : ∃ u, h'.get? e = some u)
    (new : ObjOk P w (upd H x o') h' x o') : HOk P w (upd H x o') h' := fun b u q => by
  have nown : ∀ c y, H c = some (.own y) → c ≠ x := fun c y r z => by subst z; rw [r] at mu; exact mu
  have ntup : ∀ c xs, H c = some (.tup xs) → c ≠ x := fun c xs r z => by subst z; rw [r] at mu; exact mu
  by_cases hb : b = x
  · subst hb; rw [upd_same] at q; cases q; exact new
  · rw [upd_ne hb] at q
    by_cases hbe : b = e
    · have q' : H b = some (.own x) := by
        rcases he with z | z
        · exact absurd (hbe.trans z) hb
        · rw [hbe]; exact z
      rw [q] at q'; cases q'
      obtain ⟨v, hv⟩ := heo
      exact ⟨v, by rw [hbe]; exact hv⟩
    · refine (ok b u q).stay (fun c v hc r => k c v ?_ r) (fun c r => by rw [upd_ne (nown c b r)]; exact r) fun c xs r => by rw [upd_ne (ntup c xs r)]; exact r
      rcases hc with rfl | hc
      · exact hbe
      · rintro rfl
        rcases he with z | z
        · exact nown c b hc z
        · rw [hc] at z; cases z; exact hb rfl
end
structure Un (fs ex : List Addr) (H H' : Hp) (h h' : Heap) : Prop where
  keep : ∀ b o, h.get? b = some o → H b = none → b ∉ fs → b ∉ ex → h'.get? b = some o
  slot : ∀ b o, h.get? b = some o → H b = none → b ∈ fs → b ∉ ex → ∃ sl, h'.get? b = some { o with slots := sl }
  free : ∀ b o, h.get? b = some o → H b = none → b ∉ ex → H' b = none
  there : ∀ b o, h.get? b = some o → b ∉ ex → ∃ o', h'.get? b = some o'
  tups : ∀ b xs, H b = some (.tup xs) → H' b = some (.tup xs)
  frzs : ∀ b o u, H b = some (.frz o u) → H' b = some (.frz o u)
  tbls : ∀ b ps, H b = some (.tbl ps) → ∃ more, H' b = some (.tbl (ps ++ more))
section
variable {fs fs' ex ex' : List Addr} {H H1 H2 : Hp} {h h1 h2 h' : Heap} {a x e : Addr} {o : HO}
theorem Un.any (u : Un fs ex H H1 h h1) {b : Addr} {ob : Obj} (q : h.get? b = some ob) (n : H b = none) (hx : b ∉ ex) : ∃ sl, h1.get? b = some { ob with slots := sl } := by
  by_cases hb : b ∈ fs
  · exact u.slot b ob q n hb hx
  · exact ⟨ob.slots, u.keep b ob q n hb hx⟩
theorem Un.kept (k : ∀ b u, h.get? b = some u → h'.get? b = some u) : Un fs ex H H h h' :=
  ⟨fun b ob q _ _ _ => k b ob q, fun b ob q _ _ _ => ⟨ob.slots, k b ob q⟩, fun _ _ _ n _ => n, fun b ob q _ => ⟨ob, k b ob q⟩, fun _ _ q => q, fun _ _ _ q => q, fun _ ps q => ⟨#[], by rw [q]; simp⟩⟩
theorem Un.refl : Un fs ex H H h h := Un.kept fun _ _ q => q
theorem Un.laid (k : ∀ b u, h.get? b = some u → h'.get? b = some u) (hp : h.objs.size ≤ a) (hn : H a = none) : Un fs ex H (upd H a o) h h' where
  keep := fun b u q _ _ _ => k b u q
  slot := fun b u q _ _ _ => ⟨u.slots, k b u q⟩
  free := fun b u q n _ => by rw [upd_ne (Nat.ne_of_lt (Nat.lt_of_lt_of_le (Heap.lt_size q) hp))]; exact n
  there := fun b u q _ => ⟨u, k b u q⟩
  tups := fun b xs q => by rw [upd_ne (ne_of_none q hn)]; exact q
  frzs := fun b u xs q => by rw [upd_ne (ne_of_none q hn)]; exact q
  tbls := fun b ps q => ⟨#[], by rw [upd_ne (ne_of_none q hn), q]; simp⟩
theorem Un.write (mu : Mut (H x)) (he : e = x ∨ H e = some (.own x)) (k : ∀ b u, b ≠ e → h.get? b = some u → h'.get? b = some u) (heo : ∃ u, h'.get? e = some u) : Un fs ex H (upd H x o) h h' := by
  have hx : ∀ b, H b = none → b ≠ x := fun b n z => by subst z; rw [n] at mu; exact mu
  have hb : ∀ b, H b = none → b ≠ e := fun b n z => by
    subst z
    rcases he with r | r
    · exact hx b n r
    · rw [n] at r; cases r
  have hm : ∀ b u, H b = some u → ¬ Mut (some u) → b ≠ x := fun b u q nm z => by subst z; rw [q] at mu; exact nm mu
  refine ⟨fun b u q n _ _ => k b u (hb b n) q, fun b u q n _ _ => ⟨u.slots, k b u (hb b n) q⟩, fun b u q n _ => by rw [upd_ne (hx b n)]; exact n, fun b u q _ => ?_,
    fun b xs q => by rw [upd_ne (hm b _ q fun z => z)]; exact q, fun b u xs q => by rw [upd_ne (hm b _ q fun z => z)]; exact q, fun b ps q => ⟨#[], by rw [upd_ne (hm b _ q fun z => z), q]; simp⟩⟩
  by_cases hbe : b = e
  · subst hbe; exact heo
  · exact ⟨u, k b u hbe q⟩
end
def trk (h : Heap) (H : Hp) : List Addr := (List.range h.objs.size).filter fun a => (H a).isSome
def hidT (h : Heap) (H : Hp) : Heap := PySem.W.hideAll h (trk h H)
theorem hidT_size (h : Heap) (H : Hp) : (hidT h H).objs.size = h.objs.size := PySem.W.hideAll_size _ _
theorem hidT_get {h : Heap} {H : Hp} {b : Addr} {o : Obj} (e : h.get? b = some o) (n : H b = none) : (hidT h H).get? b = some o :=
  PySem.W.hideAll_get _ e fun hm => by
    have q : (H b).isSome = true := (List.mem_filter.mp hm).2
    rw [n] at q; simp at q
theorem of_hidT {h : Heap} {H : Hp} {b : Addr} {o : Obj} (e : (hidT h H).get? b = some o) : h.get? b = some o ∧ H b = none := by
  have e' : h.get? b = some o := PySem.W.of_hideAll (trk h H) e
  refine ⟨e', ?_⟩
  cases q : H b with
  | none => rfl
  | some x =>
    have hm : b ∈ trk h H := List.mem_filter.mpr ⟨List.mem_range.mpr (Heap.lt_size e'), by simp [q]⟩
    have z : (hidT h H).get? b = none := PySem.W.hideAll_none (trk h H) hm
    rw [z] at e; cases e
end L2
namespace L2
open PySem PySem.Spec PyProof.Rows
structure Mod (K : PySem.W.Frag) (mg : Str → Option Value) (base : Heap) : Prop where
  kin : K.In base
  glob : base.Ns mainGlobals mg
  blt : ∃ mb, base.Ns builtinsNs mb ∧ ∀ x : Str, x ≠ "__name__" → mb x = bootBuiltins x
  nolimit : base.NoLimit
  seer : base.NoSeer
structure Cx where
  prog : Program
  w : World
  K : PySem.W.Frag
  mg : Str → Option Value
  base : Heap
  A : Around
  N : List Str
  s₀ : Shared
  H₀ : Hp
  env : Env
  outer : List Env
  stack : List Env
  ex : List Addr
  fn : Str → Bool
  calm : Bool
  pn : List (Addr × Obj)
  xe : Value → Shared → Prop
def frs (l : List Env) : List Addr := l.filterMap (·.frame)
abbrev Cx.fs (X : Cx) : List Addr := frs X.outer
def Vis (sc : Scope) (x : Str) : Prop := sc.names.lookup x = some .local ∨ sc.names.lookup x = some .cell ∨ sc.names.lookup x = some .free
def Loc (sc : Scope) (x : Str) : Prop := sc.names.lookup x = some .local ∨ sc.names.lookup x = some .cell
def Look (env : Env) (h : Heap) (m : Str → Option Value) (x : Str) (u : Value) : Prop :=
  (env.kindOf x = some .local ∧ m x = some u) ∨ ((env.kindOf x = some .cell ∨ env.kindOf x = some .free) ∧ ∃ c, env.cells.lookup x = some c ∧ h.IsCell c (some u))
structure Cx.Ok (X : Cx) : Prop where
  mod : Mod X.K X.mg X.base
  kind : X.env.scope.kind = .function
  glob : X.env.globals = mainGlobals
  blt : X.env.builtins = builtinsNs
  above : X.s₀.heap.objs.size ≤ X.env.locals
  inj : ∀ x y c, X.env.cells.lookup x = some c → X.env.cells.lookup y = some c → x = y
  has : ∀ x, (X.env.kindOf x = some .cell ∨ X.env.kindOf x = some .free) → ∃ c, X.env.cells.lookup x = some c
  cab : ∀ x c, X.fn x = true → X.env.cells.lookup x = some c → X.s₀.heap.objs.size ≤ c
  hd : X.calm = true → X.A.handled = none
  frames : X.A.frames = some X.stack
  stk : X.stack = X.outer ∨ (X.stack = X.env :: X.outer ∧ X.env.frame = some X.env.locals)
  exf : ∀ b ∈ X.ex, b ≠ X.env.locals ∧ ∀ x c, X.env.cells.lookup x = some c → c ≠ b
  bs : ∀ b o, X.base.get? b = some o → X.s₀.heap.get? b = some o ∧ X.H₀ b = none
  bsz : X.base.objs.size ≤ X.s₀.heap.objs.size
  noex : ∀ b o, X.base.get? b = some o → b ∉ X.ex
  exfs : ∀ b ∈ X.ex, b ∉ X.fs
  funs : X.s₀.heap.FunFrames X.base X.outer
  frf : ∀ b ∈ X.fs, X.H₀ b = none
structure Inv (X : Cx) (pins : List (Addr × Obj)) (σ : List (Option V)) (H : Hp) (s : Shared) : Prop where
  ok : X.Ok
  os : s.os = X.s₀.os
  bare : AllBare s.gens
  base : Un X.fs X.ex X.H₀ H X.s₀.heap s.heap
  loc : ∃ m, s.heap.Ns X.env.locals m ∧ ∀ (i : Nat) (x : Str) (v : V), X.N[i]? = some x → σ[i]? = some (some v) → Vis X.env.scope x → ∃ u, RelV v u ∧ Look X.env s.heap m x u
  cell : ∀ x c, X.env.cells.lookup x = some c → ∃ v, s.heap.IsCell c v
  free : H X.env.locals = none
  freeC : ∀ x c, X.env.cells.lookup x = some c → H c = none
  pin : ∀ p ∈ X.pn ++ pins, s.heap.get? p.1 = some p.2 ∧ H p.1 = none ∧ p.1 ≠ X.env.locals ∧ p.1 ∉ X.fs ∧ ∀ v, p.2.data ≠ .cell v
  hok : HOk X.prog X.w H s.heap
  len : σ.length = X.N.length
section
variable {X : Cx} {pins : List (Addr × Obj)} {σ : List (Option V)} {H H' : Hp} {s : Shared} {h' : Heap}
theorem Cx.Ok.nofr (ok : X.Ok) {b : Addr} {o : Obj} (e : X.base.get? b = some o) : b ∉ X.fs := fun hb => by
  have := (ok.funs.mem hb).1
  rw [e] at this; cases this
theorem Inv.bs (I : Inv X pins σ H s) : ∀ b o, X.base.get? b = some o → s.heap.get? b = some o ∧ H b = none := fun b o e =>
  ⟨I.base.keep b o (I.ok.bs b o e).1 (I.ok.bs b o e).2 (I.ok.nofr e) (I.ok.noex b o e), I.base.free b o (I.ok.bs b o e).1 (I.ok.bs b o e).2 (I.ok.noex b o e)⟩
theorem Inv.bk (I : Inv X pins σ H s) : ∀ b o, X.base.get? b = some o → s.heap.get? b = some o := fun b o e => (I.bs b o e).1
theorem Inv.mod (I : Inv X pins σ H s) : Mod X.K X.mg X.base := I.ok.mod
theorem Inv.kIn (I : Inv X pins σ H s) : X.K.In s.heap := I.ok.mod.kin.keeps I.bk
theorem Inv.nolimit (I : Inv X pins σ H s) : s.heap.NoLimit := I.ok.mod.nolimit.keeps I.bk
theorem Inv.lt (I : Inv X pins σ H s) : X.env.locals < s.heap.objs.size := let ⟨_, hn, _⟩ := I.loc; hn.lt
theorem Inv.sz (I : Inv X pins σ H s) : X.s₀.heap.objs.size ≤ s.heap.objs.size := Nat.le_trans I.ok.above (Nat.le_of_lt I.lt)
theorem Inv.nofs (I : Inv X pins σ H s) {a : Addr} (h : s.heap.objs.size ≤ a) : a ∉ X.fs := fun hb => by
  obtain ⟨_, o, ho, _⟩ := I.ok.funs.mem hb
  exact absurd (Nat.lt_of_lt_of_le (Heap.lt_size ho) (Nat.le_trans I.sz h)) (Nat.lt_irrefl _)
theorem Inv.cne (I : Inv X pins σ H s) : ∀ x c, X.env.cells.lookup x = some c → c ≠ X.env.locals := fun x c e z => by
  obtain ⟨v, o, ho, hd⟩ := I.cell x c e
  obtain ⟨m, ⟨o', es, ep, ho', hd', _⟩, _⟩ := I.loc
  rw [z, ho'] at ho; cases ho; rw [hd'] at hd; cases hd
theorem Inv.funs (I : Inv X pins σ H s) : s.heap.FunFrames X.base X.outer := by
  have all : ∀ (l : List Env), (∀ b ∈ frs l, b ∈ X.fs) → X.s₀.heap.FunFrames X.base l → s.heap.FunFrames X.base l := by
    intro l
    induction l with
    | nil => intro _ _; trivial
    | cons env r ih =>
      intro hs hl
      obtain ⟨hk, ⟨L, o, hf, hn, ho, hd⟩, hr⟩ := hl
      have hL : L ∈ X.fs := hs L (by unfold frs; rw [List.filterMap_cons, hf]; exact List.mem_cons_self)
      obtain ⟨sl, e⟩ := I.base.slot L o ho (I.ok.frf L hL) hL fun z => I.ok.exfs L z hL
      exact ⟨hk, ⟨L, _, hf, hn, e, hd⟩, ih (fun b hb => hs b (by unfold frs; rw [List.filterMap_cons, hf]; exact List.mem_cons_of_mem _ hb)) hr⟩
  exact all X.outer (fun _ hb => hb) I.ok.funs
theorem Inv.stack (I : Inv X pins σ H s) : s.heap.FunFrames X.base X.stack := by
  rcases I.ok.stk with e | ⟨e, hf⟩
  · rw [e]; exact I.funs
  · rw [e]
    obtain ⟨m, hn, _⟩ := I.loc
    refine .cons (by rw [I.ok.kind]; decide) hf hn ?_ I.funs
    exact Heap.get?_none_of_le (Nat.le_trans I.ok.bsz I.ok.above)
theorem Inv.stkSub (I : Inv X pins σ H s) : ∀ b ∈ frs X.stack, b ∈ X.env.locals :: X.fs := fun b hb => by
  rcases I.ok.stk with e | ⟨e, hf⟩
  · rw [e] at hb; exact List.mem_cons_of_mem _ hb
  · rw [e] at hb
    unfold frs at hb
    rw [List.filterMap_cons, hf] at hb
    exact hb
theorem Inv.stkFree (I : Inv X pins σ H s) : ∀ b ∈ frs X.stack, H b = none := fun b hb => by
  rcases List.mem_cons.mp (I.stkSub b hb) with e | hb
  · rw [e]; exact I.free
  · obtain ⟨_, o, ho, _⟩ := I.ok.funs.mem hb
    exact I.base.free b o ho (I.ok.frf b hb) fun z => I.ok.exfs b z hb
theorem Inv.step {g' : Array GenState} {t' : Nat} {d' : Drawn} {ch : List Addr} (I : Inv X pins σ H s)
    (hch : ∀ b ∈ ch, (b ∈ X.ex ∨ X.s₀.heap.objs.size ≤ b) ∧ b ≠ X.env.locals ∧ (∀ x c, X.env.cells.lookup x = some c → c ≠ b) ∧ ∀ p ∈ X.pn ++ pins, p.1 ≠ b)
    (keep : ∀ b o, b ≠ X.env.locals → b ∉ X.fs → b ∉ ch → s.heap.get? b = some o → H b = none → h'.get? b = some o)
    (slot : ∀ b o, b ≠ X.env.locals → b ∈ X.fs → b ∉ ch → s.heap.get? b = some o → H b = none → ∃ sl, h'.get? b = some { o with slots := sl }) (free : ∀ b o, b ∉ ch → s.heap.get? b = some o → H b = none → H' b = none)
    (there : ∀ b o, b ∉ ch → s.heap.get? b = some o → ∃ o', h'.get? b = some o')
    (tups : ∀ b xs, H b = some (.tup xs) → H' b = some (.tup xs)) (frzs : ∀ b o u, H b = some (.frz o u) → H' b = some (.frz o u)) (tbls : ∀ b ps, H b = some (.tbl ps) → ∃ more, H' b = some (.tbl (ps ++ more)))
    (ns : ∀ m, s.heap.Ns X.env.locals m → h'.Ns X.env.locals m) (hok : HOk X.prog X.w H' h') (hg : AllBare g') :
    Inv X pins σ H' { s with heap := h', gens := g', drawn := d', toks := t' } := by
  have neL : ∀ b o, X.s₀.heap.get? b = some o → b ≠ X.env.locals := fun b o e => Nat.ne_of_lt (Nat.lt_of_lt_of_le (Heap.lt_size e) I.ok.above)
  have neC : ∀ b o, X.s₀.heap.get? b = some o → b ∉ X.ex → b ∉ ch := fun b o e hx hb => by
    rcases (hch b hb).1 with z | z
    · exact hx z
    · exact absurd (Nat.lt_of_lt_of_le (Heap.lt_size e) z) (Nat.lt_irrefl _)
  have cellK : ∀ x c, X.env.cells.lookup x = some c → ∀ v, s.heap.IsCell c v → h'.IsCell c v := fun x c e v ⟨o, ho, hd⟩ => by
    have nch : c ∉ ch := fun z => (hch c z).2.2.1 x c e rfl
    by_cases hc : c ∈ X.fs
    · obtain ⟨sl, q⟩ := slot c o (I.cne x c e) hc nch ho (I.freeC x c e)
      exact ⟨_, q, hd⟩
    · exact ⟨o, keep c o (I.cne x c e) hc nch ho (I.freeC x c e), hd⟩
  refine ⟨I.ok, I.os, hg, ⟨fun b o e n hb hx => ?_, fun b o e n hb hx => ?_, fun b o e n hx => ?_, fun b o e hx => ?_, fun b xs e => tups b xs (I.base.tups b xs e), fun b o xs e => frzs b o xs (I.base.frzs b o xs e), fun b ps e => ?_⟩, ?_, fun x c e => ?_, ?_, fun x c e => ?_, fun p hp => ?_, hok, I.len⟩
  · exact keep b o (neL b o e) hb (neC b o e hx) (I.base.keep b o e n hb hx) (I.base.free b o e n hx)
  · obtain ⟨sl, e1⟩ := I.base.slot b o e n hb hx
    obtain ⟨sl', e2⟩ := slot b _ (neL b o e) hb (neC b o e hx) e1 (I.base.free b o e n hx)
    exact ⟨sl', e2⟩
  · obtain ⟨o', e1⟩ := I.base.there b o e hx
    exact free b o' (neC b o e hx) e1 (I.base.free b o e n hx)
  · obtain ⟨o', e1⟩ := I.base.there b o e hx
    exact there b o' (neC b o e hx) e1
  · obtain ⟨m1, e1⟩ := I.base.tbls b ps e
    obtain ⟨m2, e2⟩ := tbls b _ e1
    exact ⟨m1 ++ m2, by rw [e2, Array.append_assoc]⟩
  · obtain ⟨m, hn, hl⟩ := I.loc
    refine ⟨m, ns m hn, fun i x v e1 e2 e3 => ?_⟩
    obtain ⟨u, r, l⟩ := hl i x v e1 e2 e3
    refine ⟨u, r, ?_⟩
    rcases l with l | ⟨k, c, e, z⟩
    · exact .inl l
    · exact .inr ⟨k, c, e, cellK x c e _ z⟩
  · obtain ⟨v, z⟩ := I.cell x c e
    exact ⟨v, cellK x c e v z⟩
  · obtain ⟨m, ⟨o, _, _, ho, _⟩, _⟩ := I.loc
    exact free _ o (fun z => (hch _ z).2.1 rfl) ho I.free
  · obtain ⟨v, o, ho, hd⟩ := I.cell x c e
    exact free c o (fun z => (hch c z).2.2.1 x c e rfl) ho (I.freeC x c e)
  · obtain ⟨e, n, ne, nf, d⟩ := I.pin p hp
    have nch : p.1 ∉ ch := fun z => (hch p.1 z).2.2.2 p hp rfl
    exact ⟨keep p.1 p.2 ne nf nch e n, free p.1 p.2 nch e n, ne, nf, d⟩
theorem Inv.un {t' : Nat} (I : Inv X pins σ H s) (u : Un X.fs [] H H' s.heap h') (hok : HOk X.prog X.w H' h') : Inv X pins σ H' { s with heap := h', toks := t' } := by
  obtain ⟨m, ⟨o, es, ep, ho, r⟩, _⟩ := id I.loc
  obtain ⟨sl, hL⟩ := u.any ho I.free (by simp)
  exact I.step (g' := s.gens) (d' := s.drawn) (ch := []) (fun _ z => nomatch z) (fun b o _ hb _ e n => u.keep b o e n hb (by simp)) (fun b o _ hb _ e n => u.slot b o e n hb (by simp)) (fun b o _ e n => u.free b o e n (by simp)) (fun b o _ e => u.there b o e (by simp)) u.tups u.frzs u.tbls (fun m' hm => by
    obtain ⟨o', es', ep', ho', r'⟩ := hm
    rw [ho] at ho'; cases ho'
    exact ⟨_, es', ep', hL, r'⟩) hok I.bare
theorem Inv.call {g' : Array GenState} {t' : Nat} {d' : Drawn} {ch : List Addr} (I : Inv X pins σ H s) (u : Un (frs X.stack) ch H H' s.heap h') (hok : HOk X.prog X.w H' h') (hg : AllBare g')
    (hch : ∀ b ∈ ch, (b ∈ X.ex ∨ X.s₀.heap.objs.size ≤ b) ∧ b ≠ X.env.locals ∧ (∀ x c, X.env.cells.lookup x = some c → c ≠ b) ∧ ∀ p ∈ X.pn ++ pins, p.1 ≠ b) :
    Inv X pins σ H' { s with heap := h', gens := g', drawn := d', toks := t' } := by
  obtain ⟨m, ⟨o, es, ep, ho, r⟩, _⟩ := id I.loc
  obtain ⟨sl, hL⟩ := u.any ho I.free fun z => (hch _ z).2.1 rfl
  exact I.step (ch := ch) hch (fun b o hL hb hc e n => u.keep b o e n (fun z => (List.mem_cons.mp (I.stkSub b z)).elim hL hb) hc) (fun b o _ _ hc e n => u.any e n hc) (fun b o hc e n => u.free b o e n hc) (fun b o hc e => u.there b o e hc) u.tups u.frzs u.tbls (fun m' hm => by
    obtain ⟨o', es', ep', ho', r'⟩ := hm
    rw [ho] at ho'; cases ho'
    exact ⟨_, es', ep', hL, r'⟩) hok hg
theorem Inv.turned {t' : Nat} {it : Addr} (I : Inv X pins σ H s) (k : ∀ b o, b ≠ it → s.heap.get? b = some o → h'.get? b = some o) (hn : H it = none) (hL : it ≠ X.env.locals)
    (h1 : it ∈ X.ex ∨ X.s₀.heap.objs.size ≤ it) (h2 : ∀ x c, X.env.cells.lookup x = some c → c ≠ it) (h3 : ∀ p ∈ X.pn ++ pins, p.1 ≠ it) : Inv X pins σ H { s with heap := h', toks := t' } := by
  have nit : ∀ b u, H b = some u → b ≠ it := fun b u e z => by rw [z, hn] at e; cases e
  refine I.step (g' := s.gens) (d' := s.drawn) (ch := [it]) (fun b hb => ?_) (fun b o _ _ hc e _ => k b o (fun z => hc (by simp [z])) e) (fun b o _ _ hc e _ => ⟨o.slots, k b o (fun z => hc (by simp [z])) e⟩) (fun _ _ _ _ n => n)
    (fun b o hc e => ⟨o, k b o (fun z => hc (by simp [z])) e⟩) (fun _ _ e => e) (fun _ _ _ e => e) (fun b ps e => ⟨#[], by rw [e]; simp⟩) (fun m hm => ?_) (fun b u e => ?_) I.bare
  · have e : b = it := by simpa using hb
    subst e
    exact ⟨h1, hL, h2, h3⟩
  · obtain ⟨o, es, ep, ho, r⟩ := hm
    exact ⟨o, es, ep, k _ o (Ne.symm hL) ho, r⟩
  · refine (I.hok b u e).stay (fun c v hc q => k c v ?_ q) (fun _ q => q) fun _ _ q => q
    rcases hc with z | z
    · rw [z]; exact nit b u e
    · exact nit c _ z
theorem Inv.tok (I : Inv X pins σ H s) (t : Nat) : Inv X pins σ H { s with toks := t } := I.un (h' := s.heap) (t' := t) Un.refl I.hok
theorem Inv.kept {t' : Nat} (I : Inv X pins σ H s) (k : ∀ b u, s.heap.get? b = some u → h'.get? b = some u) : Inv X pins σ H { s with heap := h', toks := t' } := I.un (Un.kept k) (I.hok.kept k)
theorem Inv.laid {a : Addr} {o : HO} {t' : Nat} (I : Inv X pins σ H s) (k : ∀ b u, s.heap.get? b = some u → h'.get? b = some u) (hp : s.heap.objs.size ≤ a) (new : ObjOk X.prog X.w (upd H a o) h' a o) :
    Inv X pins σ (upd H a o) { s with heap := h', toks := t' } := I.un (Un.laid k hp (I.hok.fresh hp)) (I.hok.laid k hp new)
theorem Inv.write {x e : Addr} {o : HO} {t' : Nat} (I : Inv X pins σ H s) (mu : Mut (H x)) (he : e = x ∨ H e = some (.own x)) (k : ∀ b u, b ≠ e → s.heap.get? b = some u → h'.get? b = some u) (heo : ∃ u, h'.get? e = some u)
    (new : ObjOk X.prog X.w (upd H x o) h' x o) : Inv X pins σ (upd H x o) { s with heap := h', toks := t' } := I.un (Un.write mu he k heo) (I.hok.write mu he k heo new)
theorem Inv.pins_of {pins' : List (Addr × Obj)} (I : Inv X pins σ H s) (h : ∀ p ∈ pins', s.heap.get? p.1 = some p.2 ∧ H p.1 = none ∧ p.1 ≠ X.env.locals ∧ p.1 ∉ X.fs ∧ ∀ v, p.2.data ≠ .cell v) : Inv X pins' σ H s :=
  ⟨I.ok, I.os, I.bare, I.base, I.loc, I.cell, I.free, I.freeC, fun p hp => (List.mem_append.mp hp).elim (fun z => I.pin p (List.mem_append_left _ z)) (h p), I.hok, I.len⟩
theorem nodup_ix {N : List Str} (hN : N.Nodup) {i j : Nat} {x : Str} (a : N[i]? = some x) (b : N[j]? = some x) : i = j := by
  obtain ⟨h1, e1⟩ := List.getElem?_eq_some_iff.mp a
  obtain ⟨h2, e2⟩ := List.getElem?_eq_some_iff.mp b
  exact (List.getElem_inj hN).mp (e1.trans e2.symm)
theorem store_ok2 {M : Model} {A : Around} {E : Value → Shared → Prop} {i : Nat} {x : Str} {v : V} {u : Value} {Q : Unit → Shared → Prop} (I : Inv X pins σ H s) (hN : X.N.Nodup) (hi : X.N[i]? = some x) (hx : Loc X.env.scope x) (r : RelV v u)
    (h : ∀ s', Inv X pins (σ.set i (some v)) H s' → (∃ a, Heap.SameBut a s.heap s'.heap ∧ (a = X.env.locals ∨ X.env.cells.lookup x = some a)) → Q () s') (hf : X.fn x = true ∨ X.env.scope.names.lookup x = some .local := by first | exact .inl rfl | exact .inr rfl | assumption) : wpAny M A (storeName X.env x u) Q E s := by
  obtain ⟨m, hn, hl⟩ := id I.loc
  have hcls : (X.env.scope.kind == .class || (X.env.scope.kind == .module && X.env.locals != X.env.globals)) = false := by rw [I.ok.kind]; rfl
  have hiσ : i < σ.length := by rw [I.len]; exact (List.getElem?_eq_some_iff.mp hi).1
  have cne := I.cne
  have tracked : ∀ {a : Addr} {h' : Heap}, (∃ o, s.heap.get? a = some o ∧ H a = none) → Heap.SameBut a s.heap h' → HOk X.prog X.w H h' := fun {a h'} ha hs b ob e => by
    obtain ⟨_, _, hfree⟩ := ha
    refine (I.hok b ob e).stay (fun c w' hc q => (hs.2 c ?_).trans q) (fun _ q => q) fun _ _ q => q
    rintro rfl
    rcases hc with rfl | hc
    · rw [hfree] at e; cases e
    · rw [hfree] at hc; cases hc
  rcases hx with hk | hk
  · refine wpAny_storeName_local hk hn (fun h' hn' hs => ?_) hcls
    obtain ⟨oL, _, _, hoL, _⟩ := id hn
    refine h _ ⟨I.ok, I.os, I.bare, ⟨fun b o e n hb hx => ?_, fun b o e n hb hx => ?_, I.base.free, fun b o e hx => ?_, I.base.tups, I.base.frzs, I.base.tbls⟩, ⟨_, hn', fun j y v' e1 e2 e3 => ?_⟩, fun y c e => ?_, I.free, I.freeC, fun p hp => ?_, tracked ⟨oL, hoL, I.free⟩ hs, by simpa using I.len⟩ ⟨_, hs, .inl rfl⟩
    · exact (hs.2 b (Nat.ne_of_lt (Nat.lt_of_lt_of_le (Heap.lt_size e) I.ok.above))).trans (I.base.keep b o e n hb hx)
    · obtain ⟨sl, e1⟩ := I.base.slot b o e n hb hx
      exact ⟨sl, (hs.2 b (Nat.ne_of_lt (Nat.lt_of_lt_of_le (Heap.lt_size e) I.ok.above))).trans e1⟩
    · obtain ⟨o', e1⟩ := I.base.there b o e hx
      exact ⟨o', (hs.2 b (Nat.ne_of_lt (Nat.lt_of_lt_of_le (Heap.lt_size e) I.ok.above))).trans e1⟩
    · by_cases hj : j = i
      · subst hj
        rw [hi] at e1; cases e1
        rw [List.getElem?_set_self hiσ] at e2
        cases e2
        exact ⟨u, r, .inl ⟨hk, by simp⟩⟩
      · rw [List.getElem?_set_ne (Ne.symm hj)] at e2
        obtain ⟨u', r', q⟩ := hl j y v' e1 e2 e3
        refine ⟨u', r', ?_⟩
        rcases q with ⟨k, e⟩ | ⟨k, c, e, z⟩
        · refine .inl ⟨k, ?_⟩
          have : y ≠ x := fun e => hj (nodup_ix hN e1 (e ▸ hi))
          simp [this, e]
        · exact .inr ⟨k, c, e, z.sameBut hs (cne y c e)⟩
    · obtain ⟨w', z⟩ := I.cell y c e
      exact ⟨w', z.sameBut hs (cne y c e)⟩
    · obtain ⟨e, n, ne, nf, d⟩ := I.pin p hp
      exact ⟨(hs.2 p.1 ne).trans e, n, ne, nf, d⟩
  · have hfn : X.fn x = true := by
      rcases hf with z | z
      · exact z
      · rw [z] at hk; cases hk
    obtain ⟨c, hc⟩ := I.ok.has x (.inl hk)
    obtain ⟨w', z⟩ := I.cell x c hc
    refine wpAny_storeName_cell I.ok.kind hk hc z (fun h' hc' hs => ?_)
    obtain ⟨oc, hoc, hocd⟩ := id z
    refine h { s with heap := h' } ⟨I.ok, I.os, I.bare, ⟨fun b o e n hb hx => ?_, fun b o e n hb hx => ?_, I.base.free, fun b o e hx => ?_, I.base.tups, I.base.frzs, I.base.tbls⟩, ⟨m, hn.sameBut hs (Ne.symm (cne x c hc)), fun j y v' e1 e2 e3 => ?_⟩, fun y c' e => ?_, I.free, I.freeC, fun p hp => ?_, tracked ⟨oc, hoc, I.freeC x c hc⟩ hs, by simpa using I.len⟩ ⟨c, hs, .inr hc⟩
    · exact (hs.2 b (Nat.ne_of_lt (Nat.lt_of_lt_of_le (Heap.lt_size e) (I.ok.cab x c hfn hc)))).trans (I.base.keep b o e n hb hx)
    · obtain ⟨sl, e1⟩ := I.base.slot b o e n hb hx
      exact ⟨sl, (hs.2 b (Nat.ne_of_lt (Nat.lt_of_lt_of_le (Heap.lt_size e) (I.ok.cab x c hfn hc)))).trans e1⟩
    · obtain ⟨o', e1⟩ := I.base.there b o e hx
      exact ⟨o', (hs.2 b (Nat.ne_of_lt (Nat.lt_of_lt_of_le (Heap.lt_size e) (I.ok.cab x c hfn hc)))).trans e1⟩
    · by_cases hj : j = i
      · subst hj
        rw [hi] at e1; cases e1
        rw [List.getElem?_set_self hiσ] at e2
        cases e2
        exact ⟨u, r, .inr ⟨.inl hk, c, hc, hc'⟩⟩
      · rw [List.getElem?_set_ne (Ne.symm hj)] at e2
        obtain ⟨u', r', q⟩ := hl j y v' e1 e2 e3
        refine ⟨u', r', ?_⟩
        rcases q with q | ⟨k, c', e, z'⟩
        · exact .inl q
        · refine .inr ⟨k, c', e, z'.sameBut hs ?_⟩
          rintro rfl
          exact hj (nodup_ix hN e1 (I.ok.inj _ _ _ e hc ▸ hi))
    · by_cases hcc : c' = c
      · subst hcc; exact ⟨_, hc'⟩
      · obtain ⟨w2, z2⟩ := I.cell y c' e
        exact ⟨w2, z2.sameBut hs hcc⟩
    · obtain ⟨e, n, ne, nf, d⟩ := I.pin p hp
      refine ⟨(hs.2 p.1 ?_).trans e, n, ne, nf, d⟩
      intro q
      rw [q, hoc] at e
      have q' : oc = p.2 := Option.some.inj e
      exact d w' (by rw [← q']; exact hocd)
theorem store_ok {M : Model} {A : Around} {E : Value → Shared → Prop} {i : Nat} {x : Str} {v : V} {u : Value} {Q : Unit → Shared → Prop} (I : Inv X pins σ H s) (hN : X.N.Nodup) (hi : X.N[i]? = some x) (hx : Loc X.env.scope x) (r : RelV v u)
    (h : ∀ s', Inv X pins (σ.set i (some v)) H s' → Q () s') (hf : X.fn x = true ∨ X.env.scope.names.lookup x = some .local := by first | exact .inl rfl | exact .inr rfl | assumption) : wpAny M A (storeName X.env x u) Q E s :=
  store_ok2 I hN hi hx r (fun s' I' _ => h s' I') hf
theorem Inv.call' {s' : Shared} {ch : List Addr} (I : Inv X pins σ H s) (ho : s'.os = s.os) (u : Un (frs X.stack) ch H H' s.heap s'.heap) (hok : HOk X.prog X.w H' s'.heap) (hg : AllBare s'.gens)
    (hch : ∀ b ∈ ch, (b ∈ X.ex ∨ X.s₀.heap.objs.size ≤ b) ∧ b ≠ X.env.locals ∧ (∀ x c, X.env.cells.lookup x = some c → c ≠ b) ∧ ∀ p ∈ X.pn ++ pins, p.1 ≠ b) : Inv X pins σ H' s' := by
  obtain ⟨h', g', d', t', o'⟩ := s'
  have e : o' = s.os := ho
  subst e
  exact I.call (g' := g') (t' := t') (d' := d') u hok hg hch
end
abbrev XK := Value → Option Addr → Hp → Prop
abbrev St := List (Option V)
abbrev VK := V → Hp → Prop
abbrev TE := St → Hp → VK → Prop
abbrev TT := St → Hp → (Bool → Hp → Prop) → Prop
abbrev TA := St → Hp → (List V → Hp → Prop) → Prop
structure Ends where
  nx : St → Hp → Prop
  rt : VK
  bk : St → Hp → Prop := fun _ _ => False
  ct : St → Hp → Prop := fun _ _ => False
abbrev TS := Ends → St → Hp → Prop
def EP (X : Cx) (pins : List (Addr × Obj)) (σ : St) (Q : VK) (u : Value) (s' : Shared) : Prop := ∃ v H', Inv X pins σ H' s' ∧ RelV v u ∧ Q v H'
def TP (X : Cx) (pins : List (Addr × Obj)) (σ : St) (Q : Bool → Hp → Prop) (b : Bool) (s' : Shared) : Prop := ∃ H', Inv X pins σ H' s' ∧ Q b H'
def AP (X : Cx) (pins : List (Addr × Obj)) (σ : St) (Q : List V → Hp → Prop) (us : List Value) (s' : Shared) : Prop := ∃ vs H', Inv X pins σ H' s' ∧ Vals vs us ∧ Q vs H'
def SP (X : Cx) (pins : List (Addr × Obj)) (D : Ends) (f : Flow) (s' : Shared) : Prop :=
  match f with
  | .next => ∃ σ' H', Inv X pins σ' H' s' ∧ D.nx σ' H'
  | .brk => ∃ σ' H', Inv X pins σ' H' s' ∧ D.bk σ' H'
  | .cont => ∃ σ' H', Inv X pins σ' H' s' ∧ D.ct σ' H'
  | .ret u => ∃ v σ' H', Inv X pins σ' H' s' ∧ RelV v u ∧ D.rt v H'
def PE (X : Cx) (e : Expr) (t : TE) : Prop :=
  ∀ (pins : List (Addr × Obj)) (s : Shared) (σ : St) (H : Hp) (Q : VK), Inv X pins σ H s → t σ H Q → wpAny (model X.prog X.w) X.A (eval e X.env) (EP X pins σ Q) X.xe s
def PT (X : Cx) (e : Expr) (t : TT) : Prop :=
  ∀ (pins : List (Addr × Obj)) (s : Shared) (σ : St) (H : Hp) (Q : Bool → Hp → Prop), Inv X pins σ H s → t σ H Q → wpAny (model X.prog X.w) X.A (isTrue e X.env (eval e X.env)) (TP X pins σ Q) X.xe s
def PW (X : Cx) (e : Expr) (t : TT) : Prop :=
  ∀ (whole : Sem Value) (pins : List (Addr × Obj)) (s : Shared) (σ : St) (H : Hp) (Q : Bool → Hp → Prop), Inv X pins σ H s → t σ H Q → wpAny (model X.prog X.w) X.A (isTrue e X.env whole) (TP X pins σ Q) X.xe s
theorem PW.pt {X : Cx} {e : Expr} {t : TT} (h : PW X e t) : PT X e t := h _
def PA (X : Cx) (es : List Expr) (t : TA) : Prop :=
  ∀ (pos : Pos) (pins : List (Addr × Obj)) (s : Shared) (σ : St) (H : Hp) (Q : List V → Hp → Prop), Inv X pins σ H s → t σ H Q → wpAny (model X.prog X.w) X.A (spliced (backTo pos (starEach es X.env))) (AP X pins σ Q) X.xe s
def PS (X : Cx) (st : Stmt) (t : TS) : Prop :=
  ∀ (pins : List (Addr × Obj)) (s : Shared) (σ : St) (H : Hp) (D : Ends), Inv X pins σ H s → t D σ H → wpAny (model X.prog X.w) X.A (exec st X.env) (SP X pins D) X.xe s
def PSs (X : Cx) (st : List Stmt) (t : TS) : Prop :=
  ∀ (pins : List (Addr × Obj)) (s : Shared) (σ : St) (H : Hp) (D : Ends), Inv X pins σ H s → t D σ H → wpAny (model X.prog X.w) X.A (execs st X.env) (SP X pins D) X.xe s
theorem thn {α : Type} {t : Sem α} {Q Q' : α → Shared → Prop} {M : Model} {A : Around} {E : Value → Shared → Prop} {s : Shared} (h : wpAny M A t Q E s) (hQ : ∀ a s, Q a s → Q' a s) : wpAny M A t Q' E s := wpAny_mono h hQ fun _ _ x => x
end L2
namespace L2
open PySem PySem.Spec PyProof.Rows
section
variable {X : Cx}
def tVar (i : Nat) : TE := fun σ H Q => ∃ v, σ[i]? = some (some v) ∧ Q v H
def tC (v : V) : TE := fun _ H Q => Q v H
theorem pe_var {i : Nat} {x : Str} {pos : Pos} (hN : X.N[i]? = some x) (hv : Vis X.env.scope x) (hd : (x == ("__debug__" : Str)) = false := by decide) (hcd : (x == ("__classdict__" : Str)) = false := by decide) : PE X (.Name x pos) (tVar i) := by
  intro pins s σ H Q I h
  obtain ⟨v, e, h⟩ := h
  obtain ⟨m, hn, hl⟩ := I.loc
  obtain ⟨u, r, l⟩ := hl i x v hN e hv
  have fin : EP X pins σ Q u s := ⟨v, H, I, r, h⟩
  rcases l with ⟨hk, hm⟩ | ⟨hk, c, hc, hcell⟩
  · exact wpAny_Name (wpAny_loadName_local I.ok.kind hk hn hm fin) hd
  · rcases hk with hk | hk
    · exact wpAny_Name (wpAny_loadName_cell I.ok.kind hk hc hcell fin) hd
    · exact wpAny_Name (wpAny_loadName_free I.ok.kind hk hc hcell fin hcd) hd
theorem pe_int {i j pos} : PE X (.Constant (.int i) j pos) (tC (.int i)) := fun _ _ _ H _ I h => wpAny_Constant_int ⟨.int i, H, I.tok _, ⟨_, rfl⟩, h⟩
theorem pe_bl {b j pos} : PE X (.Constant (.bool b) j pos) (tC (.bl b)) := fun _ _ _ H _ I h => Constant_bool ⟨.bl b, H, I, rfl, h⟩
theorem pe_non {j pos} : PE X (.Constant .none j pos) (tC .non) := fun _ _ _ H _ I h => Constant_none ⟨.non, H, I, rfl, h⟩
theorem pe_str {x j pos} : PE X (.Constant (.str x) j pos) (tC (.str x)) := fun _ _ _ H _ I h => Calls.Constant_str ⟨.str x, H, I.tok _, ⟨_, rfl⟩, h⟩
def Gl (X : Cx) (x : Str) : Prop := X.env.kindOf x = some .globalImplicit
theorem ld_glob {E : Value → Shared → Prop} {pins : List (Addr × Obj)} {s : Shared} {σ : St} {H : Hp} {x : Str} {u : Value} {pos : Pos} {Q : Value → Shared → Prop} (I : Inv X pins σ H s) (hg : Gl X x) (hm : X.mg x = some u) (h : Q u s)
    (hd : (x == ("__debug__" : Str)) = false := by decide) : wpAny (model X.prog X.w) X.A (eval (.Name x pos) X.env) Q E s :=
  Calls.Name_function_global I.ok.kind hg (Calls.loadGlobal_global (by rw [I.ok.glob]; exact I.mod.glob.keeps I.bk) hm h) hd
theorem ld_blt {E : Value → Shared → Prop} {pins : List (Addr × Obj)} {s : Shared} {σ : St} {H : Hp} {x : Str} {u : Value} {pos : Pos} {Q : Value → Shared → Prop} (I : Inv X pins σ H s) (hg : Gl X x) (hm : X.mg x = none) (hv : bootBuiltins x = some u) (h : Q u s)
    (hn : x ≠ "__name__" := by decide) (hd : (x == ("__debug__" : Str)) = false := by decide) : wpAny (model X.prog X.w) X.A (eval (.Name x pos) X.env) Q E s := by
  obtain ⟨mb, h1, h2⟩ := I.mod.blt
  exact Calls.Name_function_global I.ok.kind hg (Calls.loadGlobal_builtin (by rw [I.ok.glob]; exact I.mod.glob.keeps I.bk) hm (by rw [I.ok.blt]; exact h1.keeps I.bk) ((h2 x hn).trans hv) h) hd
theorem pe_glob {x : Str} {v : V} {u : Value} {pos : Pos} (hg : Gl X x) (hm : X.mg x = some u) (r : RelV v u) (hd : (x == ("__debug__" : Str)) = false := by decide) : PE X (.Name x pos) (tC v) :=
  fun _ _ _ H _ I h => ld_glob I hg hm ⟨v, H, I, r, h⟩ hd
theorem pe_bltn {x : Str} {v : V} {u : Value} {pos : Pos} (hg : Gl X x) (hm : X.mg x = none) (hv : bootBuiltins x = some u) (r : RelV v u) (hn : x ≠ "__name__" := by decide) (hd : (x == ("__debug__" : Str)) = false := by decide) : PE X (.Name x pos) (tC v) :=
  fun _ _ _ H _ I h => ld_blt I hg hm hv ⟨v, H, I, r, h⟩ hn hd
variable {a b : Expr} {ta tb : TE} {pos : Pos}
def tB (t : TE) : TT := fun σ H Q => t σ H fun x H1 => ∃ c, x = .bl c ∧ Q c H1
theorem pt_val {e : Expr} {t : TE} (h : PE X e t) (he : ∀ whole, isTrue e X.env whole = (do let v ← whole; standAt e.pos; holding [v] (truthy v)) := by intro _; rfl) : PT X e (tB t) := by
  intro pins s σ H Q I hw
  refine isTrue_plain (thn (h pins s σ H _ I hw) fun v s1 ⟨x, H1, I1, r1, q1⟩ => ?_) (he _)
  obtain ⟨d, rfl, q⟩ := q1
  cases r1
  exact wpAny_truthy_bool ⟨H1, I1, q⟩
variable {tA tB' : TT} {rest : List Expr}
def tAnd (t u : TT) : TT := fun σ H Q => t σ H fun c H1 => if c = true then u σ H1 Q else Q false H1
def tOr (t u : TT) : TT := fun σ H Q => t σ H fun c H1 => if c = true then Q true H1 else u σ H1 Q
def tNot (t : TT) : TT := fun σ H Q => t σ H fun c H1 => Q (!c) H1
theorem pw_and1 (ha : PT X a tA) : PW X (.BoolOp .And [a] pos) tA := by
  intro wh pins s σ H Q I h
  refine isTrue_and (thn (ha pins s σ H Q I h) fun c s1 e => ?_)
  cases c with
  | true => exact isTrue_and_nil e
  | false => exact e
theorem pw_or1 (ha : PT X a tA) : PW X (.BoolOp .Or [a] pos) tA := by
  intro wh pins s σ H Q I h
  refine isTrue_or (thn (ha pins s σ H Q I h) fun c s1 e => ?_)
  cases c with
  | false => exact isTrue_or_nil e
  | true => exact e
theorem pw_and (ha : PT X a tA) (hb : PW X (.BoolOp .And (b :: rest) pos) tB') : PW X (.BoolOp .And (a :: b :: rest) pos) (tAnd tA tB') := by
  intro wh pins s σ H Q I h
  refine isTrue_and (thn (ha pins s σ H _ I h) fun c s1 ⟨H1, I1, q1⟩ => ?_)
  cases c with
  | true => exact hb wh pins s1 σ H1 Q I1 q1
  | false => exact ⟨H1, I1, q1⟩
theorem pw_or (ha : PT X a tA) (hb : PW X (.BoolOp .Or (b :: rest) pos) tB') : PW X (.BoolOp .Or (a :: b :: rest) pos) (tOr tA tB') := by
  intro wh pins s σ H Q I h
  refine isTrue_or (thn (ha pins s σ H _ I h) fun c s1 ⟨H1, I1, q1⟩ => ?_)
  cases c with
  | true => exact ⟨H1, I1, q1⟩
  | false => exact hb wh pins s1 σ H1 Q I1 q1
theorem pt_not (ha : PT X a tA) : PT X (.UnaryOp .Not a pos) (tNot tA) := by
  intro pins s σ H Q I h
  exact isTrue_not (ha pins s σ H (fun c H1 => Q (!c) H1) I h)
def tAndV (ta tb : TE) : TE := fun σ H Q => ta σ H fun x H1 => ∃ c, x = .bl c ∧ if c = true then tb σ H1 Q else Q (.bl false) H1
def tOrV (ta tb : TE) : TE := fun σ H Q => ta σ H fun x H1 => ∃ c, x = .bl c ∧ if c = true then Q (.bl true) H1 else tb σ H1 Q
def tNotV (ta : TE) : TE := fun σ H Q => ta σ H fun x H1 => ∃ c, x = .bl c ∧ Q (.bl (!c)) H1
theorem pe_one {op} {t : TE} (h : PE X a t) : PE X (.BoolOp op [a] pos) t := fun pins s σ H Q I hw => BoolOp_one (h pins s σ H Q I hw)
theorem pe_and (ha : PE X a ta) (hb : PE X (.BoolOp .And (b :: rest) pos) tb) : PE X (.BoolOp .And (a :: b :: rest) pos) (tAndV ta tb) := by
  intro pins s σ H Q I h
  refine BoolOp_and (thn (ha pins s σ H _ I h) fun v s1 ⟨x, H1, I1, r1, q1⟩ => ?_)
  obtain ⟨c, rfl, q1⟩ := q1
  cases r1
  refine wpAny_truthy_bool ?_
  cases c with
  | true => exact hb pins s1 σ H1 Q I1 q1
  | false => exact ⟨.bl false, H1, I1, rfl, q1⟩
theorem pe_or (ha : PE X a ta) (hb : PE X (.BoolOp .Or (b :: rest) pos) tb) : PE X (.BoolOp .Or (a :: b :: rest) pos) (tOrV ta tb) := by
  intro pins s σ H Q I h
  refine BoolOp_or (thn (ha pins s σ H _ I h) fun v s1 ⟨x, H1, I1, r1, q1⟩ => ?_)
  obtain ⟨c, rfl, q1⟩ := q1
  cases r1
  refine wpAny_truthy_bool ?_
  cases c with
  | false => exact hb pins s1 σ H1 Q I1 q1
  | true => exact ⟨.bl true, H1, I1, rfl, q1⟩
theorem pe_not (ha : PE X a ta) : PE X (.UnaryOp .Not a pos) (tNotV ta) := by
  intro pins s σ H Q I h
  refine UnaryOp_ (thn (ha pins s σ H _ I h) fun v s1 ⟨x, H1, I1, r1, q1⟩ => ?_)
  obtain ⟨c, rfl, q1⟩ := q1
  cases r1
  exact not_of (wpAny_truthy_bool ⟨.bl (!c), H1, I1, rfl, q1⟩)
end
end L2
namespace L2
open PySem PySem.Spec PyProof.Rows
def SqL (K : PySem.W.Frag) (H : Hp) (a : Addr) (xs : List V) : Prop :=
  Rd H a (.lst xs) ∨
    ∃ (o : Obj) (its : Array Value) (n : Nat), K.lookup a = some o ∧ o.cls = .type "list" ∧ o.dict = none ∧ o.data = .seq its n ∧ its.size ≤ sizeLine ∧ Vals xs its.toList
def SqT (K : PySem.W.Frag) (H : Hp) (a : Addr) (xs : List V) : Prop :=
  Rd H a (.tup xs) ∨
    ∃ (o : Obj) (its : Array Value) (n : Nat), K.lookup a = some o ∧ o.cls = .type "tuple" ∧ o.data = .seq its n ∧ its.size ≤ sizeLine ∧ Vals xs its.toList
def absV : Value → Option V
  | .none => some .non
  | .bool b => some (.bl b)
  | .int i _ => some (.int i)
  | .str x _ => some (.str x)
  | .bytes b _ => some (.byt b)
  | .float b _ => some (.flt b)
  | .ref a => some (.ref a)
  | .type n => some (.ty n)
  | _ => none
theorem RelV.abs {x : V} {u : Value} (r : RelV x u) : absV u = some x := by
  cases x with
  | non => cases r; rfl
  | bl _ => cases r; rfl
  | int _ => obtain ⟨t, rfl⟩ := r; rfl
  | str _ => obtain ⟨t, rfl⟩ := r; rfl
  | byt _ => obtain ⟨t, rfl⟩ := r; rfl
  | flt _ => obtain ⟨t, rfl⟩ := r; rfl
  | ref _ => cases r; rfl
  | ty _ => cases r; rfl
theorem RelV.inj {x y : V} {u : Value} (r : RelV x u) (q : RelV y u) : x = y := Option.some.inj (r.abs.symm.trans q.abs)
theorem Vals.inj : ∀ {xs ys : List V} {us : List Value}, Vals xs us → Vals ys us → xs = ys
  | _, _, _, .nil, .nil => rfl
  | _, _, _, .cons r t, .cons r' t' => by rw [r.inj r', Vals.inj t t']
section
variable {X : Cx} {pins : List (Addr × Obj)} {σ : St} {H : Hp} {s : Shared} {a : Addr} {xs ys : List V}
theorem SqL.of {K : PySem.W.Frag} (h : H a = some (.lst xs)) : SqL K H a xs := .inl (.inl h)
theorem Inv.list (I : Inv X pins σ H s) (h : SqL X.K H a xs) : ∃ its : List Value, Vals xs its ∧ PlainL s.heap a its.toArray ∧ xs.length ≤ sizeLine := by
  rcases h with h | ⟨o, its, n, hk, hc, hd, hs, hz, r⟩
  · obtain ⟨z, its, n, r, e⟩ := h.ok I.hok
    exact ⟨its, r, ⟨_, n, e, rfl, rfl, rfl⟩, z⟩
  · refine ⟨its.toList, r, ⟨o, n, I.kIn a o hk, hc, hd, by simpa using hs⟩, ?_⟩
    have e := r.length
    simp only [Array.length_toList] at e
    omega
theorem Inv.tuple (I : Inv X pins σ H s) (h : SqT X.K H a xs) : ∃ its : List Value, Vals xs its ∧ IsTup s.heap a its.toArray ∧ xs.length ≤ sizeLine := by
  rcases h with h | ⟨o, its, n, hk, hc, hs, hz, r⟩
  · obtain ⟨z, its, r, p⟩ := h.ok I.hok
    exact ⟨its, r, p, z⟩
  · refine ⟨its.toList, r, ⟨o, I.kIn a o hk, hc, n, by simpa using hs⟩, ?_⟩
    have e := r.length
    simp only [Array.length_toList] at e
    omega
theorem Inv.list_inj (I : Inv X pins σ H s) (h : SqL X.K H a xs) (h' : SqL X.K H a ys) : xs = ys := by
  obtain ⟨its, r, ⟨o, n, e, _, _, d⟩, _⟩ := I.list h
  obtain ⟨its', r', ⟨o', n', e', _, _, d'⟩, _⟩ := I.list h'
  rw [e] at e'; cases e'
  rw [d] at d'
  injection d' with d1 _
  have : its = its' := by simpa using congrArg Array.toList d1
  subst this
  exact r.inj r'
theorem Inv.tuple_inj (I : Inv X pins σ H s) (h : SqT X.K H a xs) (h' : SqT X.K H a ys) : xs = ys := by
  obtain ⟨its, r, ⟨o, e, _, n, d⟩, _⟩ := I.tuple h
  obtain ⟨its', r', ⟨o', e', _, n', d'⟩, _⟩ := I.tuple h'
  rw [e] at e'; cases e'
  rw [d] at d'
  injection d' with d1 _
  have : its = its' := by simpa using congrArg Array.toList d1
  subst this
  exact r.inj r'
end
abbrev Cx.wish (X : Cx) (E : Value → Shared → Prop) : Cx := { X with xe := E }
abbrev Cx.nox (X : Cx) : Cx := X.wish fun _ _ => False
theorem Cx.Ok.wish {X : Cx} (ok : X.Ok) (E : Value → Shared → Prop) : (X.wish E).Ok :=
  ⟨ok.mod, ok.kind, ok.glob, ok.blt, ok.above, ok.inj, ok.has, ok.cab, ok.hd, ok.frames, ok.stk, ok.exf, ok.bs, ok.bsz, ok.noex, ok.exfs, ok.funs, ok.frf⟩
theorem Cx.Ok.unwish {X : Cx} {E : Value → Shared → Prop} (ok : (X.wish E).Ok) : X.Ok :=
  ⟨ok.mod, ok.kind, ok.glob, ok.blt, ok.above, ok.inj, ok.has, ok.cab, ok.hd, ok.frames, ok.stk, ok.exf, ok.bs, ok.bsz, ok.noex, ok.exfs, ok.funs, ok.frf⟩
section
variable {X : Cx} {pins : List (Addr × Obj)} {σ : St} {H : Hp} {s : Shared} {E : Value → Shared → Prop}
theorem Inv.wish (I : Inv X pins σ H s) (E : Value → Shared → Prop) : Inv (X.wish E) pins σ H s := ⟨I.ok.wish E, I.os, I.bare, I.base, I.loc, I.cell, I.free, I.freeC, I.pin, I.hok, I.len⟩
theorem Inv.unwish (I : Inv (X.wish E) pins σ H s) : Inv X pins σ H s := ⟨I.ok.unwish, I.os, I.bare, I.base, I.loc, I.cell, I.free, I.freeC, I.pin, I.hok, I.len⟩
theorem SP.unwish {D : Ends} {f : Flow} {s' : Shared} (h : SP (X.wish E) pins D f s') : SP X pins D f s' := by
  cases f with
  | next => obtain ⟨σ', H', I, q⟩ := h; exact ⟨σ', H', I.unwish, q⟩
  | brk => obtain ⟨σ', H', I, q⟩ := h; exact ⟨σ', H', I.unwish, q⟩
  | cont => obtain ⟨σ', H', I, q⟩ := h; exact ⟨σ', H', I.unwish, q⟩
  | ret u => obtain ⟨v, σ', H', I, r, q⟩ := h; exact ⟨v, σ', H', I.unwish, r, q⟩
theorem PSs.nox {st : List Stmt} {t : TS} (h : PSs X.nox st t) : PSs X st t := fun pins s σ H D I hw =>
  wpAny_mono (h pins s σ H D (I.wish _) hw) (fun _ _ q => q.unwish) fun _ _ z => False.elim z
end
section
variable {X : Cx} {st : Stmt} {rest : List Stmt} {t u : TS} {e : Expr} {te : TE} {pos : Pos}
def tNext : TS := fun D σ H => D.nx σ H
def tSeq (t u : TS) : TS := fun D σ H => t { D with nx := u D } σ H
theorem pss_nil : PSs X [] tNext := fun _ _ σ H _ I h => wpAny_execs_nil ⟨σ, H, I, h⟩
theorem pss_cons (h1 : PS X st t) (h2 : PSs X rest u) : PSs X (st :: rest) (tSeq t u) := by
  intro pins s σ H D I h
  refine wpAny_execs_cons (thn (h1 pins s σ H { D with nx := u D } I h) fun f s1 q => ?_)
  cases f with
  | next =>
    obtain ⟨σ', H', I', q⟩ := q
    exact h2 pins s1 σ' H' D I' q
  | ret v => exact q
  | brk => exact q
  | cont => exact q
theorem pss_one (h1 : PS X st t) : PSs X [st] t := by
  intro pins s σ H D I h
  refine wpAny_execs_cons (thn (h1 pins s σ H D I h) fun f s1 q => ?_)
  cases f with
  | next => exact wpAny_execs_nil q
  | ret v => exact q
  | brk => exact q
  | cont => exact q
theorem Inv.quiet {pins : List (Addr × Obj)} {σ : St} {H : Hp} {s : Shared} (I : Inv X pins σ H s) : interactive X.env = false := by simp [interactive, I.ok.kind]
def tDrop (te : TE) : TS := fun D σ H => te σ H fun _ H1 => D.nx σ H1
theorem ps_expr (he : PE X e te) (hs : swapsWith e none pos.line X.env = pure false := by rfl) : PS X (.Expr e pos) (tDrop te) := by
  intro pins s σ H D I h
  exact wpAny_Expr_any (thn (he pins s σ H _ I h) fun v s1 ⟨x, H1, I1, r1, q1⟩ => ⟨σ, H1, I1, q1⟩) I.quiet hs
def tRet (te : TE) : TS := fun D σ H => te σ H D.rt
theorem ps_ret (he : PE X e te) : PS X (.Return (some e) pos) (tRet te) := by
  intro pins s σ H D I h
  exact wpAny_Return_some (thn (he pins s σ H _ I h) fun v s1 ⟨x, H1, I1, r1, q1⟩ => ⟨x, σ, H1, I1, r1, q1⟩)
def tIfS (c : TT) (t u : TS) : TS := fun D σ H => c σ H fun b H1 => if b = true then t D σ H1 else u D σ H1
theorem ps_if {c : Expr} {a b : List Stmt} {tc : TT} (hc : PT X c tc) (ha : PSs X a t) (hb : PSs X b u) : PS X (.If c a b pos) (tIfS tc t u) := by
  intro pins s σ H D I h
  refine wpAny_If (thn (hc pins s σ H _ I h) fun d s1 ⟨H1, I1, q1⟩ => ?_)
  cases d with
  | true => exact ha pins s1 σ H1 D I1 q1
  | false => exact hb pins s1 σ H1 D I1 q1
def tNever : TS := fun _ _ _ => False
theorem pss_never {sts : List Stmt} : PSs X sts tNever := fun _ _ _ _ _ _ h => h.elim
end
abbrev TG := V → St → Hp → (St → Hp → Prop) → Prop
abbrev TGs := List V → St → Hp → (St → Hp → Prop) → Prop
def PG (X : Cx) (target : Expr) (t : TG) : Prop :=
  ∀ (pins : List (Addr × Obj)) (s : Shared) (σ : St) (H : Hp) (v : V) (u : Value) (Q : St → Hp → Prop), Inv X pins σ H s → RelV v u → t v σ H Q →
    wpAny (model X.prog X.w) X.A (assign target X.env u) (fun _ s' => ∃ σ' H', Inv X pins σ' H' s' ∧ Q σ' H') X.xe s
def PGs (X : Cx) (ts : List Expr) (t : TGs) : Prop :=
  ∀ (pins : List (Addr × Obj)) (s : Shared) (σ : St) (H : Hp) (vs : List V) (us : List Value) (Q : St → Hp → Prop), Inv X pins σ H s → Vals vs us → t vs σ H Q →
    wpAny (model X.prog X.w) X.A (assignInOrder ((assignEach ts X.env).map (·.2)) us) (fun _ s' => ∃ σ' H', Inv X pins σ' H' s' ∧ Q σ' H') X.xe s
abbrev TSet := V → V → V → Hp → (Hp → Prop) → Prop
def PSet (X : Cx) (t : TSet) : Prop :=
  ∀ (pins : List (Addr × Obj)) (s : Shared) (σ : St) (H : Hp) (o i v : V) (ov iv u : Value) (Q : Hp → Prop), Inv X pins σ H s → RelV o ov → RelV i iv → RelV v u → t o i v H Q →
    wpAny (model X.prog X.w) X.A (setItem ov iv u) (fun _ s' => ∃ H', Inv X pins σ H' s' ∧ Q H') X.xe s
section
variable {X : Cx} {pos : Pos}
def gName (i : Nat) : TG := fun v σ H Q => Q (σ.set i (some v)) H
theorem pg_name {i : Nat} {x : Str} (hN : X.N.Nodup) (hi : X.N[i]? = some x) (hx : Loc X.env.scope x) (hf : X.fn x = true ∨ X.env.scope.names.lookup x = some .local := by first | exact .inl rfl | exact .inr rfl | assumption) : PG X (.Name x pos) (gName i) := by
  intro pins s σ H v u Q I r h
  exact wpAny_assign_Name (store_ok I hN hi hx r (fun s' I' => ⟨_, H, I', h⟩) hf)
def gNil : TGs := fun vs σ H Q => vs = [] ∧ Q σ H
def gCons (t : TG) (u : TGs) : TGs := fun vs σ H Q => ∃ v r, vs = v :: r ∧ t v σ H fun σ' H' => u r σ' H' Q
theorem pgs_nil : PGs X [] gNil := by
  intro pins s σ H vs us Q I r h
  obtain ⟨e, h⟩ := h
  subst e
  cases r
  exact assignInOrder_nil ⟨σ, H, I, h⟩
theorem pgs_cons {e : Expr} {es : List Expr} {t : TG} {u : TGs} (h1 : PG X e t) (h2 : PGs X es u)
    (hs : (assignEach (e :: es) X.env).map (·.2) = assign e X.env :: (assignEach es X.env).map (·.2) := by rfl) : PGs X (e :: es) (gCons t u) := by
  intro pins s σ H vs us Q I r h
  obtain ⟨v, vr, e1, h⟩ := h
  subst e1
  cases r with
  | cons r rr =>
    rw [hs]
    refine assignInOrder_cons (thn (h1 pins s σ H _ _ _ I r h) fun _ s1 ⟨σ1, H1, I1, q1⟩ => ?_)
    exact h2 pins s1 σ1 H1 _ _ Q I1 rr q1
def gTup (K : PySem.W.Frag) (n : Nat) (t : TGs) : TG := fun v σ H Q => ∃ a xs, v = .ref a ∧ SqT K H a xs ∧ xs.length = n ∧ t xs σ H Q
theorem pg_tup {es : List Expr} {k : Nat} {t : TGs} {n : Nat} (hc : X.calm = true) (h : PGs X es t)
    (hn : (assignEach es X.env).length = n := by rfl) (hst : (assignEach es X.env).findIdx? (·.1) = none := by rfl) : PG X (.Tuple es k pos) (gTup X.K n t) := by
  intro pins s σ H v u Q I r hw
  obtain ⟨a, xs, e1, hq, hl, hw⟩ := hw
  subst e1
  cases r
  obtain ⟨its, rv, ht, hz⟩ := I.tuple hq
  refine assign_Tuple_tuple (I.ok.hd hc) ht (by simp [hn, ← hl, rv.length]) hst fun h' hx => ?_
  have I1 : Inv X pins σ H { s with heap := h' } := I.kept (t' := s.toks) fun b o e => hx b o (Nat.ne_of_lt (Heap.lt_size e)) e
  exact h pins _ σ H xs _ Q I1 (by simpa using rv) hw
def gSub (to ti : TE) (t : TSet) : TG := fun v σ H Q => to σ H fun o H1 => ti σ H1 fun i H2 => t o i v H2 fun H3 => Q σ H3
theorem pg_sub {o i : Expr} {to ti : TE} {t : TSet} (ho : PE X o to) (hi : PE X i ti) (hs : PSet X t)
    (ha : ∀ v, assign (.Subscript o i pos) X.env v = (do
      let ov ← holding [v] (eval o X.env)
      let iv ← holding [v, ov] (eval i X.env)
      standAt pos
      holding [v, ov, iv] (setItem ov iv v)
      release [v, ov, iv] []) := by intro _; rfl) : PG X (.Subscript o i pos) (gSub to ti t) := by
  intro pins s σ H v u Q I r h
  rw [ha]
  refine wpAny_bind (wpAny_holding (thn (ho pins s σ H _ I h) fun ov s1 ⟨x, H1, I1, r1, q1⟩ => ?_))
  refine wpAny_bind (wpAny_holding (thn (hi pins s1 σ H1 _ I1 q1) fun iv s2 ⟨y, H2, I2, r2, q2⟩ => ?_))
  refine wpAny_bind (wpAny_standAt (wpAny_bind (wpAny_holding (thn (hs pins s2 σ H2 x y v ov iv u _ I2 r1 r2 r q2) fun _ s3 ⟨H3, I3, q3⟩ => ?_))))
  exact wpAny_release ⟨σ, H3, I3, q3⟩
def tAsg (te : TE) (g : TG) : TS := fun D σ H => te σ H fun x H1 => g x σ H1 D.nx
theorem ps_asg {tg e : Expr} {te : TE} {g : TG} (he : PE X e te) (hg : PG X tg g) (hs : swapsWithSole [tg] e pos.line X.env = pure false := by rfl) (hw : swappedStores [tg] e X.env = pure none := by rfl)
    (h1 : (assignEach [tg] X.env).map (·.2) = [assign tg X.env] := by rfl) : PS X (.Assign [tg] e pos) (tAsg te g) := by
  intro pins s σ H D I h
  refine wpAny_Assign_stores (thn (he pins s σ H _ I h) fun v s1 ⟨x, H1, I1, r1, q1⟩ => ?_) hs hw
  rw [h1]
  exact thn (hg pins s1 σ H1 x v _ I1 r1 q1) fun _ s2 q => q
theorem ps_set {i : Nat} {x : Str} {e : Expr} {te : TE} {pos' : Pos} (hN : X.N.Nodup) (hi : X.N[i]? = some x) (hx : Loc X.env.scope x) (he : PE X e te) (hs : swapsWith e (some (.Name x pos')) pos.line X.env = pure false := by rfl) (hf : X.fn x = true ∨ X.env.scope.names.lookup x = some .local := by first | exact .inl rfl | exact .inr rfl | assumption) :
    PS X (.Assign [.Name x pos'] e pos) (tAsg te (gName i)) := by
  intro pins s σ H D I h
  refine wpAny_Assign_Name (thn (he pins s σ H _ I h) fun v s1 ⟨y, H1, I1, r1, q1⟩ => ?_) hs
  exact store_ok I1 hN hi hx r1 (fun s2 I2 => ⟨_, H1, I2, q1⟩) hf
end
section
variable {X : Cx} {pos : Pos}
def tWhile (c : TT) (tb : TS) : TS := fun D σ H => ∃ W : Nat → St → Hp → Prop, (∃ m, W m σ H) ∧ ∀ m σ H, W m σ H →
  c σ H fun b H1 => if b = true then ∃ N : St → Hp → Prop, (∀ σ' H', N σ' H' → ∃ m', m' < m ∧ W m' σ' H') ∧ tb { D with nx := N, ct := N, bk := D.nx } σ H1 else D.nx σ H1
theorem ps_while {c : Expr} {body : List Stmt} {tc : TT} {tb : TS} (hp : PassesOwn (model X.prog X.w) X.A X.env X.xe) (hc : PT X c tc) (hb : PSs X body tb) : PS X (.While c body [] pos) (tWhile tc tb) := by
  intro pins s σ H D I h
  obtain ⟨W, ⟨m0, w0⟩, turn⟩ := h
  refine wpAny_While (codeAny_whileLoop (fun n s' => ∃ σ' H', Inv X pins σ' H' s' ∧ W n σ' H') ?_ m0 ⟨σ, H, I, w0⟩)
  rintro n s1 ⟨σ1, H1, I1, w1⟩
  refine wpAny_passesOwn hp (thn (hc pins s1 σ1 H1 _ I1 (turn n σ1 H1 w1)) fun b s2 ⟨H2, I2, q2⟩ => ?_)
  cases b with
  | true =>
    obtain ⟨N, hN, q2⟩ := q2
    rw [if_pos rfl]
    refine wpAny_passesOwn hp (thn (hb pins s2 σ1 H2 _ I2 q2) fun f s3 q3 => ?_)
    cases f with
    | next =>
      obtain ⟨σ3, H3, I3, n3⟩ := q3
      obtain ⟨m', hm, w3⟩ := hN σ3 H3 n3
      exact ⟨m', hm, σ3, H3, I3, w3⟩
    | cont =>
      obtain ⟨σ3, H3, I3, n3⟩ := q3
      obtain ⟨m', hm, w3⟩ := hN σ3 H3 n3
      exact ⟨m', hm, σ3, H3, I3, w3⟩
    | brk => exact q3
    | ret v => exact q3
  | false =>
    rw [if_neg Bool.false_ne_true]
    exact wpAny_execs_nil ⟨σ1, H2, I2, q2⟩
end
structure It where
  go : Nat → Hp → Prop
  yld : Nat → Hp → V → Hp → Prop
  stop : Nat → Hp → Prop
def FpOk (X : Cx) (pins : List (Addr × Obj)) (H : Hp) (b : Addr) : Prop :=
  H b = none ∧ b ≠ X.env.locals ∧ b ∉ X.fs ∧ (b ∈ X.ex ∨ X.s₀.heap.objs.size ≤ b) ∧ (∀ x c, X.env.cells.lookup x = some c → c ≠ b) ∧ ∀ p ∈ X.pn ++ pins, p.1 ≠ b
theorem Inv.fpOk {X : Cx} {pins : List (Addr × Obj)} {σ : St} {H H' : Hp} {s : Shared} {b : Addr} (I : Inv X pins σ H s) (hb : s.heap.objs.size ≤ b) (hn : H' b = none) : FpOk X pins H' b := by
  refine ⟨hn, Nat.ne_of_gt (Nat.lt_of_lt_of_le I.lt hb), I.nofs hb, .inr (Nat.le_trans I.sz hb), fun x c e z => ?_, fun p hp z => ?_⟩
  · obtain ⟨v, q⟩ := I.cell x c e
    exact absurd (Nat.lt_of_lt_of_le q.lt (by rw [z]; exact hb)) (Nat.lt_irrefl _)
  · exact absurd (Nat.lt_of_lt_of_le (Heap.lt_size (I.pin p hp).1) (by rw [z]; exact hb)) (Nat.lt_irrefl _)
structure Turn (P : Program) (w : World) (K : PySem.W.Frag) (tg : Expr) (J : It) (fp : List Addr) (it : Addr) (tn : Nat → Heap → Prop) : Prop where
  mem : it ∈ fp
  obj : ∀ i h, tn i h → ∀ b ∈ fp, ∃ o, h.get? b = some o ∧ ∀ v, o.data ≠ .cell v
  keep : ∀ i h h', tn i h → (∀ b ∈ fp, ∀ o, h.get? b = some o → h'.get? b = some o) → tn i h'
  item : ∀ (X : Cx), X.prog = P → X.w = w → X.K = K → X.calm = true → ∀ (i : Nat) (pins : List (Addr × Obj)) (s : Shared) (σ : St) (H : Hp) (E : Value → Shared → Prop), Inv X pins σ H s → (∀ b ∈ fp, FpOk X pins H b) → tn i s.heap → J.go i H →
    wpAny (model P w) X.A (pyNext (.ref it)) (fun r s1 => ∃ u, r = some u ∧
      wpAny (model P w) X.A (letOwnedTupleGo tg (.ref it) u) (fun _ s2 => ∃ x H', Inv X pins σ H' s2 ∧ RelV x u ∧ J.yld i H x H' ∧ tn (i + 1) s2.heap ∧ ∀ b ∈ fp, H' b = none) E s1) E s
  done : ∀ (X : Cx), X.prog = P → X.w = w → X.K = K → X.calm = true → ∀ (i : Nat) (pins : List (Addr × Obj)) (s : Shared) (σ : St) (H : Hp) (E : Value → Shared → Prop), Inv X pins σ H s → (∀ b ∈ fp, FpOk X pins H b) → tn i s.heap → J.stop i H →
    wpAny (model P w) X.A (pyNext (.ref it)) (fun r s1 => r = none ∧ Inv X pins σ H s1) E s
  self : ∀ (A : Around) (i : Nat) (s : Shared) (Q : Value → Shared → Prop) (E : Value → Shared → Prop), tn i s.heap → Q (.ref it) s → wpAny (model P w) A (pyIter (.ref it)) Q E s
abbrev TI := St → Hp → (It → Hp → Prop) → Prop
def PIE (X : Cx) (pins : List (Addr × Obj)) (σ : St) (tg : Expr) (R : It → Hp → Prop) (itv : Value) (s2 : Shared) : Prop :=
  ∃ (it : Addr) (fp : List Addr) (tn : Nat → Heap → Prop) (J : It) (H' : Hp), itv = .ref it ∧ Inv X pins σ H' s2 ∧ Turn X.prog X.w X.K tg J fp it tn ∧ tn 0 s2.heap ∧ (∀ b ∈ fp, FpOk X pins H' b) ∧ R J H'
def PI (X : Cx) (tg iter : Expr) (wi : TI) : Prop :=
  ∀ (pins : List (Addr × Obj)) (s : Shared) (σ : St) (H : Hp) (R : It → Hp → Prop), Inv X pins σ H s → wi σ H R →
    wpAny (model X.prog X.w) X.A (eval iter X.env) (fun v s1 => wpAny (model X.prog X.w) X.A (pyIter v) (PIE X pins σ tg R) X.xe s1) X.xe s
theorem go_of {M : Model} {A : Around} {E : Value → Shared → Prop} {s : Shared} {tg : Expr} {it : Addr} {u : Value} {o : Obj} {n : String} {vs : Array Value} {Q : Unit → Shared → Prop} (ho : s.heap.get? it = some o) (hc : o.cls = .type n) (hd : o.data = .fields vs)
    (hn : ["enumerate", "zip", "dict_itemiterator", "dict_reverseitemiterator", "odict_iterator", "itertools.zip_longest", "itertools.pairwise"].contains n = false) (hQ : Q () s) : wpAny M A (letOwnedTupleGo tg (.ref it) u) Q E s := by
  unfold letOwnedTupleGo
  cases tg <;> first
    | exact wpAny_pure hQ
    | (cases u <;> first
        | exact wpAny_pure hQ
        | (refine wpAny_bind (wpAny_load ho ?_)
           rw [hc, hd]
           show wpAny M A (if (["enumerate", "zip", "dict_itemiterator", "dict_reverseitemiterator", "odict_iterator", "itertools.zip_longest", "itertools.pairwise"].contains n && vs[0]? == some (rawInt _)) = true then _ else _) Q E s
           rw [if_neg (by intro h; rw [hn, Bool.false_and] at h; cases h)]
           exact wpAny_pure hQ))
def Itl (K : PySem.W.Frag) (a : Addr) : It :=
  ⟨fun i H => ∃ xs x, SqL K H a xs ∧ xs[i]? = some x, fun i H x H' => H' = H ∧ ∀ xs, SqL K H a xs → xs[i]? = some x, fun i H => ∃ xs, SqL K H a xs ∧ xs.length ≤ i⟩
def Itt (K : PySem.W.Frag) (a : Addr) : It :=
  ⟨fun i H => ∃ xs x, SqT K H a xs ∧ xs[i]? = some x, fun i H x H' => H' = H ∧ ∀ xs, SqT K H a xs → xs[i]? = some x, fun i H => ∃ xs, SqT K H a xs ∧ xs.length ≤ i⟩
def Itr (lo : Int) (n : Nat) : It := ⟨fun i _ => i < n, fun i H x H' => H' = H ∧ x = .int (lo + i), fun i _ => n ≤ i⟩
theorem turn_list {P : Program} {w : World} {K : PySem.W.Frag} {tg : Expr} (a it : Addr) : Turn P w K tg (Itl K a) [it] it (fun i h => h.IsListIter it a i) where
  mem := by simp
  obj := fun i h st b hb => by
    have e : b = it := by simpa using hb
    subst e
    obtain ⟨o, e, c, d⟩ := st
    exact ⟨o, e, fun v z => by rw [d] at z; cases z⟩
  keep := fun i h h' st k => st.at fun o e => k it (by simp) o e
  item := by
    intro X hP hw hK hc i pins s σ H E I hf st hg
    subst hP hw hK
    obtain ⟨xs, x, hq, hx⟩ := hg
    obtain ⟨its, rv, p, hz⟩ := I.list hq
    obtain ⟨u, hu, ru⟩ := rv.get hx
    obtain ⟨f0, f1, f2, f3, f4, f5⟩ := hf it (by simp)
    refine wpAny_pyNext_list_item st p.isList (x := u) (by simpa using hu) fun h' st' sb => ?_
    have I1 : Inv X pins σ H { s with heap := h' } := I.turned (t' := s.toks) (fun b o hb e => (sb.2 b hb).trans e) f0 f1 f3 f4 f5
    obtain ⟨o, e, c, d⟩ := id st'
    exact ⟨u, rfl, go_of (s := { s with heap := h' }) e c d (by decide) ⟨x, H, I1, ru, ⟨rfl, fun ys hy => by rw [I.list_inj hy hq]; exact hx⟩, st', fun b hb => (hf b hb).1⟩⟩
  done := by
    intro X hP hw hK hc i pins s σ H E I hf st hg
    subst hP hw hK
    obtain ⟨xs, hq, hx⟩ := hg
    obtain ⟨its, rv, p, hz⟩ := I.list hq
    obtain ⟨f0, f1, f2, f3, f4, f5⟩ := hf it (by simp)
    have hl := rv.length
    exact wpAny_pyNext_list_end (I.ok.hd hc) st p.isList (by simp; omega) fun h' eb => ⟨rfl, I.turned (t' := s.toks) (fun b o hb e => eb b o hb e) f0 f1 f3 f4 f5⟩
  self := fun _ _ _ _ _ st h => wpAny_pyIter_listiter st h
theorem turn_tuple {P : Program} {w : World} {K : PySem.W.Frag} {tg : Expr} (a it : Addr) : Turn P w K tg (Itt K a) [it] it (fun i h => h.IsTupleIter it a i) where
  mem := by simp
  obj := fun i h st b hb => by
    have e : b = it := by simpa using hb
    subst e
    obtain ⟨o, e, c, d⟩ := st
    exact ⟨o, e, fun v z => by rw [d] at z; cases z⟩
  keep := fun i h h' st k => st.at fun o e => k it (by simp) o e
  item := by
    intro X hP hw hK hc i pins s σ H E I hf st hg
    subst hP hw hK
    obtain ⟨xs, x, hq, hx⟩ := hg
    obtain ⟨its, rv, p, hz⟩ := I.tuple hq
    obtain ⟨u, hu, ru⟩ := rv.get hx
    obtain ⟨f0, f1, f2, f3, f4, f5⟩ := hf it (by simp)
    refine wpAny_pyNext_tuple_item st (show s.heap.IsTuple a its.toArray from p) (x := u) (by simpa using hu) fun h' st' sb => ?_
    have I1 : Inv X pins σ H { s with heap := h' } := I.turned (t' := s.toks) (fun b o hb e => (sb.2 b hb).trans e) f0 f1 f3 f4 f5
    obtain ⟨o, e, c, d⟩ := id st'
    exact ⟨u, rfl, go_of (s := { s with heap := h' }) e c d (by decide) ⟨x, H, I1, ru, ⟨rfl, fun ys hy => by rw [I.tuple_inj hy hq]; exact hx⟩, st', fun b hb => (hf b hb).1⟩⟩
  done := by
    intro X hP hw hK hc i pins s σ H E I hf st hg
    subst hP hw hK
    obtain ⟨xs, hq, hx⟩ := hg
    obtain ⟨its, rv, p, hz⟩ := I.tuple hq
    obtain ⟨f0, f1, f2, f3, f4, f5⟩ := hf it (by simp)
    have hl := rv.length
    exact wpAny_pyNext_tuple_end (I.ok.hd hc) st (show s.heap.IsTuple a its.toArray from p) (by simp; omega) fun h' eb => ⟨rfl, I.turned (t' := s.toks) (fun b o hb e => eb b o hb e) f0 f1 f3 f4 f5⟩
  self := fun _ _ _ _ _ st h => wpAny_pyIter_tupleiter st h
theorem turn_range {P : Program} {w : World} {K : PySem.W.Frag} {tg : Expr} (it : Addr) (lo : Int) (n : Nat) : Turn P w K tg (Itr lo n) [it] it (fun i h => IsRangeIter h it (lo + (i : Nat) * 1) ((n : Int) - (i : Nat)) 1) where
  mem := by simp
  obj := fun i h st b hb => by
    have e : b = it := by simpa using hb
    subst e
    exact ⟨_, st, fun v z => by
      have z' : Data.fields _ = Data.cell v := z
      cases z'⟩
  keep := fun i h h' st k => k it (by simp) _ st
  item := by
    intro X hP hw hK hc i pins s σ H E I hf st hg
    subst hP hw hK
    obtain ⟨f0, f1, f2, f3, f4, f5⟩ := hf it (by simp)
    have W := Walks.range (prog := X.prog) (w := X.w) (I.ok.hd hc) it lo 1 n
    refine W.item i s _ _ hg st fun v h' tk hv st' kk => ?_
    obtain ⟨t, rfl⟩ := hv
    have I1 : Inv X pins σ H { s with heap := h', toks := tk } := I.turned (fun b o hb e => kk b o (by simpa using hb) e) f0 f1 f3 f4 f5
    refine ⟨_, rfl, go_of (s := { s with heap := h', toks := tk }) (n := "range_iterator") st' rfl rfl (by decide) ⟨.int (lo + i), H, I1, ⟨t, ?_⟩, ⟨rfl, rfl⟩, st', fun b hb => (hf b hb).1⟩⟩
    rw [Int.mul_one]
  done := by
    intro X hP hw hK hc i pins s σ H E I hf st hg
    subst hP hw hK
    obtain ⟨f0, f1, f2, f3, f4, f5⟩ := hf it (by simp)
    exact wpAny_pyNext_range_end (I.ok.hd hc) st (by have : n ≤ i := hg; omega) fun h' eb => ⟨rfl, I.turned (t' := s.toks) (fun b o hb e => eb b o hb e) f0 f1 f3 f4 f5⟩
  self := fun _ _ _ _ _ st h => wpAny_pyIter_rangeiter st h
end L2
namespace L2
open PySem PySem.Spec PyProof.Rows
section
variable {X : Cx} {tg : Expr}
def iList (K : PySem.W.Frag) (tl : TE) : TI := fun σ H R => tl σ H fun x H1 => ∃ a, x = .ref a ∧ (∃ xs, SqL K H1 a xs) ∧ R (Itl K a) H1
def iTup (K : PySem.W.Frag) (tl : TE) : TI := fun σ H R => tl σ H fun x H1 => ∃ a, x = .ref a ∧ (∃ xs, SqT K H1 a xs) ∧ R (Itt K a) H1
theorem pi_list {l : Expr} {tl : TE} (hl : PE X l tl) : PI X tg l (iList X.K tl) := by
  intro pins s σ H R I h
  refine thn (hl pins s σ H _ I h) fun v s1 ⟨x, H1, I1, r1, q1⟩ => ?_
  obtain ⟨a, e, ⟨xs, hq⟩, q⟩ := q1
  subst e
  cases r1
  obtain ⟨its, rv, p, hz⟩ := I1.list hq
  refine wpAny_pyIter_list p.isList ?_
  refine ⟨s1.heap.objs.size, [s1.heap.objs.size], _, _, H1, rfl, I1.kept (t' := s1.toks) fun b o e => Heap.get?_push_of_some _ e, turn_list a _, ⟨_, Heap.get?_push_size _ rfl, rfl, rfl⟩, fun b hb => ?_, q⟩
  have e : b = s1.heap.objs.size := by simpa using hb
  subst e
  exact I1.fpOk (Nat.le_refl _) (I1.hok.fresh (Nat.le_refl _))
theorem pi_tup {l : Expr} {tl : TE} (hl : PE X l tl) : PI X tg l (iTup X.K tl) := by
  intro pins s σ H R I h
  refine thn (hl pins s σ H _ I h) fun v s1 ⟨x, H1, I1, r1, q1⟩ => ?_
  obtain ⟨a, e, ⟨xs, hq⟩, q⟩ := q1
  subst e
  cases r1
  obtain ⟨its, rv, p, hz⟩ := I1.tuple hq
  refine wpAny_pyIter_tuple (show s1.heap.IsTuple a its.toArray from p) ?_
  refine ⟨s1.heap.objs.size, [s1.heap.objs.size], _, _, H1, rfl, I1.kept (t' := s1.toks) fun b o e => Heap.get?_push_of_some _ e, turn_tuple a _, ⟨_, Heap.get?_push_size _ rfl, rfl, rfl⟩, fun b hb => ?_, q⟩
  have e : b = s1.heap.objs.size := by simpa using hb
  subst e
  exact I1.fpOk (Nat.le_refl _) (I1.hok.fresh (Nat.le_refl _))
theorem range_it {pins : List (Addr × Obj)} {σ : St} {H : Hp} {s : Shared} {R : It → Hp → Prop} {E : Value → Shared → Prop} {lo hi : Int} {t u v : Tok} {tk : Nat} (I : Inv X pins σ H s) (h1 : -(2 ^ 62) ≤ lo) (h2 : lo < 2 ^ 62) (h3 : -(2 ^ 62) ≤ hi) (h4 : hi < 2 ^ 62)
    (q : R (Itr lo (hi - lo).toNat) H) : wpAny (model X.prog X.w) X.A (pyIter (.ref s.heap.objs.size)) (PIE X pins σ tg R) E { s with heap := s.heap.push { cls := .type "range", data := .fields #[.int lo t, .int hi u, .int 1 v] }, toks := tk } := by
  refine wpAny_pyIter_range (IsRange.new ..) (small_one h1 h2 h3 h4) ?_
  have I1 : Inv X pins σ H { s with heap := s.heap.push { cls := .type "range", data := .fields #[.int lo t, .int hi u, .int 1 v] }, toks := tk } := I.kept fun b o e => Heap.get?_push_of_some _ e
  refine ⟨(s.heap.push { cls := .type "range", data := .fields #[.int lo t, .int hi u, .int 1 v] }).objs.size, [(s.heap.push { cls := .type "range", data := .fields #[.int lo t, .int hi u, .int 1 v] }).objs.size], _, _, H, rfl,
    I1.kept (t' := tk) fun b o e => Heap.get?_push_of_some _ e, turn_range _ lo (hi - lo).toNat, ?_, fun b hb => ?_, q⟩
  · have e1 : lo + ((0 : Nat) : Int) * 1 = lo := by simp
    have e2 : (((hi - lo).toNat : Nat) : Int) - ((0 : Nat) : Int) = Builtin.Range.rangeSize lo hi 1 := by rw [rangeSize_one]; split <;> omega
    show IsRangeIter _ _ (lo + ((0 : Nat) : Int) * 1) ((((hi - lo).toNat : Nat) : Int) - ((0 : Nat) : Int)) 1
    rw [e1, e2]
    exact Heap.get?_push_size _ rfl
  · have e : b = (s.heap.push { cls := .type "range", data := .fields #[.int lo t, .int hi u, .int 1 v] }).objs.size := by simpa using hb
    subst e
    exact I1.fpOk (Nat.le_refl _) (I1.hok.fresh (Nat.le_refl _))
def iRng1 (ta : TA) : TI := fun σ H R => ta σ H fun vs H1 => ∃ j : Int, vs = [.int j] ∧ -(2 ^ 62) ≤ j ∧ j < 2 ^ 62 ∧ R (Itr 0 j.toNat) H1
theorem pi_range1 {a : Expr} {ta : TA} {p pos : Pos} (hg : Gl X "range") (hm : X.mg "range" = none) (ha : PA X [a] ta) (hs : starEach [a] X.env = [(false, eval a X.env)] := by rfl) : PI X tg (.Call (.Name "range" p) [a] [] pos) (iRng1 ta) := by
  intro pins s σ H R I h
  refine Call_ (ld_blt I hg hm boot_range (PyProof.Rows.callWith_type1 (thn (ha pos pins s σ H _ I h) fun us s1 ⟨vs, H1, I1, r1, q1⟩ => ?_) hs rfl))
  obtain ⟨j, e, q1, q2, q⟩ := q1
  subst e
  cases r1 with
  | cons r rr =>
    cases rr
    obtain ⟨t, rfl⟩ := r
    exact call_range_1 (range_it I1 (by omega) (by omega) q1 q2 (by simpa using q))
def tFor (wi : TI) (g : TG) (tb : TS) : TS := fun D σ H => wi σ H fun J H1 => ∃ W : Nat → Nat → St → Hp → Prop, (∃ m, W 0 m σ H1) ∧ ∀ i m σ H, W i m σ H →
  (J.stop i H ∧ D.nx σ H) ∨ (J.go i H ∧ ∃ N : St → Hp → Prop, (∀ σ' H', N σ' H' → ∃ m', m' < m ∧ W (i + 1) m' σ' H') ∧ ∀ x H', J.yld i H x H' → g x σ H' fun σ2 H2 => tb { D with nx := N, ct := N, bk := D.nx } σ2 H2)
def pinsAt (fp : List Addr) (h : Heap) : List (Addr × Obj) := fp.filterMap fun b => (h.get? b).map fun o => (b, o)
theorem mem_pinsAt {fp : List Addr} {h : Heap} {b : Addr} {o : Obj} (hb : b ∈ fp) (e : h.get? b = some o) : (b, o) ∈ pinsAt fp h := List.mem_filterMap.mpr ⟨b, hb, by rw [e]; rfl⟩
theorem of_pinsAt {fp : List Addr} {h : Heap} {p : Addr × Obj} (hp : p ∈ pinsAt fp h) : p.1 ∈ fp ∧ h.get? p.1 = some p.2 := by
  obtain ⟨b, hb, e⟩ := List.mem_filterMap.mp hp
  cases q : h.get? b with
  | none => rw [q] at e; cases e
  | some o =>
    rw [q] at e
    have e' : (b, o) = p := Option.some.inj e
    subst e'
    exact ⟨hb, q⟩
theorem Inv.pinned {pins : List (Addr × Obj)} {σ : St} {H : Hp} {s : Shared} {fp : List Addr} (I : Inv X pins σ H s) (hf : ∀ b ∈ fp, FpOk X pins H b) (ho : ∀ b ∈ fp, ∃ o, s.heap.get? b = some o ∧ ∀ v, o.data ≠ .cell v) : Inv X (pins ++ pinsAt fp s.heap) σ H s :=
  I.pins_of fun p hp => (List.mem_append.mp hp).elim (fun z => I.pin p (List.mem_append_right _ z)) fun z => by
    obtain ⟨hb, e⟩ := of_pinsAt z
    obtain ⟨f0, f1, f2, _⟩ := hf p.1 hb
    obtain ⟨o, e', d⟩ := ho p.1 hb
    rw [e] at e'; cases e'
    exact ⟨e, f0, f1, f2, d⟩
theorem Inv.unpinned {pins pl : List (Addr × Obj)} {σ : St} {H : Hp} {s : Shared} (I : Inv X (pins ++ pl) σ H s) : Inv X pins σ H s := I.pins_of fun p hp => I.pin p (List.mem_append_right _ (List.mem_append_left _ hp))
theorem ps_for {iter : Expr} {body : List Stmt} {wi : TI} {g : TG} {tb : TS} {pos : Pos} (hp : PassesOwn (model X.prog X.w) X.A X.env X.xe) (hc : X.calm = true) (hi : PI X tg iter wi) (hg : PG X tg g) (hb : PSs X body tb)
    (hs : ∀ x, foldedSetIterable iter X.env x = pure x := by intro _; rfl) : PS X (.For tg iter body [] pos) (tFor wi g tb) := by
  intro pins s σ H D I h
  refine wpAny_For (thn (hi pins s σ H _ I h) fun v s1 h1 => thn h1 fun itv s2 h2 => ?_) hs
  obtain ⟨it, fp, tn, J, H2, e, I2, T, st2, f2, W, ⟨m0, w0⟩, turn⟩ := h2
  subst e
  -- what stays true of the iterator's objects through the loop
  have stat : ∀ {H' : Hp}, (∀ b ∈ fp, H' b = none) → ∀ b ∈ fp, FpOk X pins H' b := fun hn b hb => ⟨hn b hb, (f2 b hb).2⟩
  refine codeAny_forLoop_any (fun n s' => ∃ i σ' H', Inv X pins σ' H' s' ∧ tn i s'.heap ∧ (∀ b ∈ fp, H' b = none) ∧ W i n σ' H') ?_ m0 ⟨0, σ, H2, I2, st2, fun b hb => (f2 b hb).1, w0⟩
  rintro n s3 ⟨i, σ3, H3, I3, st3, fr3, w3⟩
  rcases turn i n σ3 H3 w3 with ⟨stop, qn⟩ | ⟨go, N, hN, step⟩
  · refine wpAny_passesOwn hp (thn (T.done X rfl rfl rfl hc i pins s3 σ3 H3 X.xe I3 (stat fr3) st3 stop) fun r s4 ⟨hr, I4⟩ => ?_)
    subst hr
    exact wpAny_execs_nil ⟨σ3, H3, I4, qn⟩
  · refine wpAny_passesOwn hp (thn (T.item X rfl rfl rfl hc i pins s3 σ3 H3 X.xe I3 (stat fr3) st3 go) fun r s4 ⟨u, hr, h4⟩ => ?_)
    subst hr
    refine wpAny_passesOwn hp (thn h4 fun _ s5 ⟨x, H5, I5, r5, y5, st5, fr5⟩ => ?_)
    have I5' := I5.pinned (stat fr5) (T.obj _ _ st5)
    refine wpAny_passesOwn hp (thn (hg _ s5 σ3 H5 x u _ I5' r5 (step x H5 y5)) fun _ s6 ⟨σ6, H6, I6, q6⟩ => ?_)
    refine wpAny_passesOwn hp (thn (hb _ s6 σ6 H6 _ I6 q6) fun f s7 q7 => ?_)
    have again : ∀ {σ7 : St} {H7 : Hp}, Inv X (pins ++ pinsAt fp s5.heap) σ7 H7 s7 → N σ7 H7 → ∃ m, m < n ∧ ∃ i σ' H', Inv X pins σ' H' s7 ∧ tn i s7.heap ∧ (∀ b ∈ fp, H' b = none) ∧ W i m σ' H' := fun {σ7 H7} I7 n7 => by
      obtain ⟨m', hm, w7⟩ := hN σ7 H7 n7
      refine ⟨m', hm, i + 1, σ7, H7, I7.unpinned, T.keep _ _ _ st5 fun b hb o e => (I7.pin (b, o) (List.mem_append_right _ (List.mem_append_right _ (mem_pinsAt hb e)))).1, fun b hb => ?_, w7⟩
      obtain ⟨o, e, d⟩ := T.obj _ _ st5 b hb
      exact (I7.pin (b, o) (List.mem_append_right _ (List.mem_append_right _ (mem_pinsAt hb e)))).2.1
    cases f with
    | next => obtain ⟨σ7, H7, I7, n7⟩ := q7; exact again I7 n7
    | cont => obtain ⟨σ7, H7, I7, n7⟩ := q7; exact again I7 n7
    | brk => obtain ⟨σ7, H7, I7, q7⟩ := q7; exact ⟨σ7, H7, I7.unpinned, q7⟩
    | ret v => obtain ⟨x7, σ7, H7, I7, r7, q7⟩ := q7; exact ⟨x7, σ7, H7, I7.unpinned, r7, q7⟩
end
end L2
namespace L2
open PySem PySem.Spec PyProof.Rows
abbrev R2 := V → V → Hp → VK → Prop
def OpR (X : Cx) (f : Value → Value → Sem Value) (r : R2) : Prop :=
  ∀ (pins : List (Addr × Obj)) (s : Shared) (σ : St) (H : Hp) (x y : V) (v u : Value) (Q : VK), Inv X pins σ H s → RelV x v → RelV y u → r x y H Q →
    wpAny (model X.prog X.w) X.A (f v u) (EP X pins σ Q) X.xe s
def UnR (X : Cx) (f : Value → Sem Value) (r : V → Hp → VK → Prop) : Prop :=
  ∀ (pins : List (Addr × Obj)) (s : Shared) (σ : St) (H : Hp) (x : V) (v : Value) (Q : VK), Inv X pins σ H s → RelV x v → r x H Q →
    wpAny (model X.prog X.w) X.A (f v) (EP X pins σ Q) X.xe s
def CallR (X : Cx) (f : Value) (r : List V → Hp → VK → Prop) : Prop :=
  ∀ (pins : List (Addr × Obj)) (s : Shared) (σ : St) (H : Hp) (xs : List V) (us : List Value) (Q : VK), Inv X pins σ H s → Vals xs us → r xs H Q →
    wpAny (model X.prog X.w) X.A (call f us) (EP X pins σ Q) X.xe s
def TruR (X : Cx) (r : V → Hp → (Bool → Hp → Prop) → Prop) : Prop :=
  ∀ (pins : List (Addr × Obj)) (s : Shared) (σ : St) (H : Hp) (x : V) (v : Value) (Q : Bool → Hp → Prop), Inv X pins σ H s → RelV x v → r x H Q →
    wpAny (model X.prog X.w) X.A (truthy v) (TP X pins σ Q) X.xe s
def tOp (r : R2) (ta tb : TE) : TE := fun σ H Q => ta σ H fun x H1 => tb σ H1 fun y H2 => r x y H2 Q
def tUn (r : V → Hp → VK → Prop) (ta : TE) : TE := fun σ H Q => ta σ H fun x H1 => r x H1 Q
def rI (C : Int → Int → Prop) (g : Int → Int → V) : R2 := fun x y H Q => ∃ i j, x = .int i ∧ y = .int j ∧ C i j ∧ Q (g i j) H
def rI0 (g : Int → Int → V) : R2 := fun x y H Q => ∃ i j, x = .int i ∧ y = .int j ∧ Q (g i j) H
def rU (g : Int → V) : V → Hp → VK → Prop := fun x H Q => ∃ i, x = .int i ∧ Q (g i) H
section
variable {X : Cx} {a b c : Expr} {ta tb tc : TE} {pos : Pos}
theorem binT (ha : PE X a ta) (hb : PE X b tb) {pins : List (Addr × Obj)} {s : Shared} {σ : St} {H : Hp} {R : V → V → Hp → Prop} (I : Inv X pins σ H s)
    (h : ta σ H fun x H1 => tb σ H1 fun y H2 => R x y H2) {Q : Value → Shared → Prop} {f : Value → Value → Sem Value}
    (hf : ∀ v u s2 x y H2, Inv X pins σ H2 s2 → RelV x v → RelV y u → R x y H2 → wpAny (model X.prog X.w) X.A (f v u) Q X.xe s2) :
    wpAny (model X.prog X.w) X.A (eval a X.env) (fun v s₁ => wpAny (model X.prog X.w) X.A (eval b X.env) (fun u s₂ => wpAny (model X.prog X.w) X.A (f v u) Q X.xe s₂) X.xe s₁) X.xe s := by
  refine thn (ha pins s σ H _ I h) fun v s1 ⟨x, H1, I1, r1, q1⟩ => ?_
  refine thn (hb pins s1 σ H1 _ I1 q1) fun u s2 ⟨y, H2, I2, r2, q2⟩ => ?_
  exact hf v u s2 x y H2 I2 r1 r2 q2
theorem pe_op {op : Operator} {r : R2} (ho : OpR X (binaryOp op) r) (ha : PE X a ta) (hb : PE X b tb) : PE X (.BinOp a op b pos) (tOp r ta tb) := by
  intro pins s σ H Q I h
  exact wpAny_BinOp (binT ha hb I h fun v u s2 x y H2 I2 rx ry q => ho pins s2 σ H2 x y v u Q I2 rx ry q)
theorem pe_un {op : UnaryOp} {r : V → Hp → VK → Prop} (ho : UnR X (unaryOp op) r) (ha : PE X a ta) : PE X (.UnaryOp op a pos) (tUn r ta) := by
  intro pins s σ H Q I h
  exact UnaryOp_ (thn (ha pins s σ H _ I h) fun v s1 ⟨x, H1, I1, r1, q1⟩ => ho pins s1 σ H1 x v Q I1 r1 q1)
theorem opI {f : Value → Value → Sem Value} {C : Int → Int → Prop} {g : Int → Int → Int}
    (rule : ∀ (i j : Int) (t u : Tok) (s : Shared) (Q : Value → Shared → Prop) (E : Value → Shared → Prop), C i j → Q (.int (g i j) s.toks) { s with toks := s.toks + 1 } → wpAny (model X.prog X.w) X.A (f (.int i t) (.int j u)) Q E s) :
    OpR X f (rI C fun i j => .int (g i j)) := by
  intro pins s σ H x y v u Q I rx ry h
  obtain ⟨i, j, rfl, rfl, hc, q⟩ := h
  obtain ⟨t, rfl⟩ := rx
  obtain ⟨t', rfl⟩ := ry
  exact rule i j t t' s _ _ hc ⟨.int (g i j), H, I.tok _, ⟨_, rfl⟩, q⟩
theorem opI0 {f : Value → Value → Sem Value} {g : Int → Int → Int}
    (rule : ∀ (i j : Int) (t u : Tok) (s : Shared) (Q : Value → Shared → Prop) (E : Value → Shared → Prop), Q (.int (g i j) s.toks) { s with toks := s.toks + 1 } → wpAny (model X.prog X.w) X.A (f (.int i t) (.int j u)) Q E s) :
    OpR X f (rI0 fun i j => .int (g i j)) := by
  intro pins s σ H x y v u Q I rx ry h
  obtain ⟨i, j, rfl, rfl, q⟩ := h
  obtain ⟨t, rfl⟩ := rx
  obtain ⟨t', rfl⟩ := ry
  exact rule i j t t' s _ _ ⟨.int (g i j), H, I.tok _, ⟨_, rfl⟩, q⟩
theorem opB0 {f : Value → Value → Sem Value} {g : Int → Int → Bool}
    (rule : ∀ (i j : Int) (t u : Tok) (s : Shared) (Q : Value → Shared → Prop) (E : Value → Shared → Prop), Q (.bool (g i j)) s → wpAny (model X.prog X.w) X.A (f (.int i t) (.int j u)) Q E s) :
    OpR X f (rI0 fun i j => .bl (g i j)) := by
  intro pins s σ H x y v u Q I rx ry h
  obtain ⟨i, j, rfl, rfl, q⟩ := h
  obtain ⟨t, rfl⟩ := rx
  obtain ⟨t', rfl⟩ := ry
  exact rule i j t t' s _ _ ⟨.bl (g i j), H, I, rfl, q⟩
def CDiv (i j : Int) : Prop := 0 < j ∧ j < 1073741824
def CPow (i j : Int) : Prop := 0 ≤ j ∧ j ≤ 1000000 ∧ i.natAbs < 2 ^ 64
theorem op_add : OpR X (binaryOp .Add) (rI0 fun i j => .int (i + j)) := opI0 fun _ _ _ _ _ _ _ q => add_int q
theorem op_sub : OpR X (binaryOp .Sub) (rI0 fun i j => .int (i - j)) := opI0 fun _ _ _ _ _ _ _ q => sub_int q
theorem op_fdiv : OpR X (binaryOp .FloorDiv) (rI CDiv fun i j => .int (i / j)) := opI fun i j _ _ _ _ _ hc q => by
  have h1 : (0 : Int) < j := hc.1
  have h2 : j < 1073741824 := hc.2
  exact floordiv_int (by omega) (by rw [Int.fdiv_eq_ediv_of_nonneg i (by omega)]; exact q) (.inl (PyProof.noPylong_small (by omega)))
theorem op_mod : OpR X (binaryOp .Mod) (rI (fun _ j => 0 < j) fun i j => .int (i % j)) := opI fun i j _ _ _ _ _ hc q => by
  have h1 : (0 : Int) < j := hc
  exact mod_int' (by omega) (by rw [Int.fmod_eq_emod_of_nonneg i (by omega)]; exact q)
theorem op_pow : OpR X (binaryOp .Pow) (rI CPow fun i j => .int (i ^ j.toNat)) := opI fun _ _ _ _ _ _ _ hc q => pow_int_small hc.1 hc.2.1 hc.2.2 q
theorem unI {f : Value → Sem Value} {g : Int → Int}
    (rule : ∀ (i : Int) (t : Tok) (s : Shared) (Q : Value → Shared → Prop) (E : Value → Shared → Prop), Q (.int (g i) s.toks) { s with toks := s.toks + 1 } → wpAny (model X.prog X.w) X.A (f (.int i t)) Q E s) :
    UnR X f (rU fun i => .int (g i)) := by
  intro pins s σ H x v Q I rx h
  obtain ⟨i, rfl, q⟩ := h
  obtain ⟨t, rfl⟩ := rx
  exact rule i t s _ _ ⟨.int (g i), H, I.tok _, ⟨_, rfl⟩, q⟩
theorem un_neg : UnR X (unaryOp .USub) (rU fun i => .int (-i)) := unI fun _ _ _ _ _ q => neg_int q
end
def scal : V → V → Bool
  | .non, .non => true | .non, .int _ => true | .int _, .non => true | .non, .bl _ => true | .bl _, .non => true | .non, .str _ => true | .str _, .non => true
  | .int _, .int _ => true | .bl _, .bl _ => true | .str _, .str _ => true | .byt _, .byt _ => true
  | .int _, .str _ => true | .str _, .int _ => true | .bl _, .str _ => true | .str _, .bl _ => true
  | _, _ => false
def rEq : R2 := fun x y H Q => scal x y = true ∧ Q (.bl (decide (x = y))) H
def rNe : R2 := fun x y H Q => scal x y = true ∧ Q (.bl (!decide (x = y))) H
theorem dec_int {i j : Int} : decide (V.int i = V.int j) = (i == j) := by
  rw [Bool.eq_iff_iff]
  simp
theorem dec_bl {i j : Bool} : decide (V.bl i = V.bl j) = (i == j) := by
  rw [Bool.eq_iff_iff]
  simp
theorem dec_str {i j : Str} : decide (V.str i = V.str j) = (i == j) := by
  rw [Bool.eq_iff_iff]
  simp
theorem dec_byt {i j : Array UInt8} : decide (V.byt i = V.byt j) = (i.toList == j.toList) := by
  rw [Bool.eq_iff_iff]
  cases i
  cases j
  simp
section
variable {X : Cx} {a b c : Expr} {ta tb tc : TE} {pos : Pos}
theorem fin_bl {pins : List (Addr × Obj)} {σ : St} {H : Hp} {s : Shared} {Q : VK} {k k' : Bool} (I : Inv X pins σ H s) (q : Q (.bl k) H) (e : k = k') : EP X pins σ Q (.bool k') s := by
  subst e
  exact ⟨.bl k, H, I, rfl, q⟩
theorem op_eq : OpR X (compareOp .Eq) rEq := by
  intro pins s σ H x y v u Q I rx ry h
  obtain ⟨hs, q⟩ := h
  cases x with
  | non =>
    cases rx
    cases y with
    | non => cases ry; exact PySem.EqNone.eq_none_none (fin_bl I q (by simp))
    | bl j => cases ry; exact PySem.EqNone.eq_none_bool (fin_bl I q (by simp))
    | int j => obtain ⟨t', rfl⟩ := ry; exact PySem.EqNone.eq_none_int (fin_bl I q (by simp))
    | str j => obtain ⟨t', rfl⟩ := ry; exact PySem.EqNone.eq_none_str (fin_bl I q (by simp))
    | _ => exact absurd (show false = true from hs) Bool.false_ne_true
  | bl i =>
    cases rx
    cases y with
    | non => cases ry; exact PySem.EqNone.eq_bool_none (fin_bl I q (by simp))
    | bl j => cases ry; exact eq_bool (fin_bl I q dec_bl)
    | str j => obtain ⟨t', rfl⟩ := ry; exact PySem.EqMixed.eq_bool_str (fin_bl I q (by simp))
    | _ => exact absurd (show false = true from hs) Bool.false_ne_true
  | int i =>
    obtain ⟨t, rfl⟩ := rx
    cases y with
    | non => cases ry; exact PySem.EqNone.eq_int_none (fin_bl I q (by simp))
    | int j => obtain ⟨t', rfl⟩ := ry; exact eq_int (fin_bl I q dec_int)
    | str j => obtain ⟨t', rfl⟩ := ry; exact PySem.EqMixed.eq_int_str (fin_bl I q (by simp))
    | _ => exact absurd (show false = true from hs) Bool.false_ne_true
  | str i =>
    obtain ⟨t, rfl⟩ := rx
    cases y with
    | non => cases ry; exact PySem.EqNone.eq_str_none (fin_bl I q (by simp))
    | bl j => cases ry; exact PySem.EqMixed.eq_str_bool (fin_bl I q (by simp))
    | int j => obtain ⟨t', rfl⟩ := ry; exact PySem.EqMixed.eq_str_int (fin_bl I q (by simp))
    | str j => obtain ⟨t', rfl⟩ := ry; exact eq_str (fin_bl I q dec_str)
    | _ => exact absurd (show false = true from hs) Bool.false_ne_true
  | byt i =>
    obtain ⟨t, rfl⟩ := rx
    cases y with
    | byt j => obtain ⟨t', rfl⟩ := ry; exact PySem.W.eq_bytes (fin_bl I q dec_byt)
    | _ => exact absurd (show false = true from hs) Bool.false_ne_true
  | _ => cases y <;> exact absurd (show false = true from hs) Bool.false_ne_true
theorem op_ne : OpR X (compareOp .NotEq) rNe := by
  intro pins s σ H x y v u Q I rx ry h
  obtain ⟨hs, q⟩ := h
  cases x with
  | non =>
    cases rx
    cases y with
    | non => cases ry; exact PySem.EqNone.ne_none_none (fin_bl I q (by simp))
    | bl j => cases ry; exact PySem.EqNone.ne_none_bool (fin_bl I q (by simp))
    | int j => obtain ⟨t', rfl⟩ := ry; exact PySem.EqNone.ne_none_int (fin_bl I q (by simp))
    | str j => obtain ⟨t', rfl⟩ := ry; exact PySem.EqNone.ne_none_str (fin_bl I q (by simp))
    | _ => exact absurd (show false = true from hs) Bool.false_ne_true
  | bl i =>
    cases rx
    cases y with
    | non => cases ry; exact PySem.EqNone.ne_bool_none (fin_bl I q (by simp))
    | bl j => cases ry; exact ne_bool (fin_bl I q (congrArg not dec_bl))
    | str j => obtain ⟨t', rfl⟩ := ry; exact PySem.EqMixed.ne_bool_str (fin_bl I q (by simp))
    | _ => exact absurd (show false = true from hs) Bool.false_ne_true
  | int i =>
    obtain ⟨t, rfl⟩ := rx
    cases y with
    | non => cases ry; exact PySem.EqNone.ne_int_none (fin_bl I q (by simp))
    | int j => obtain ⟨t', rfl⟩ := ry; exact ne_int (fin_bl I q (congrArg not dec_int))
    | str j => obtain ⟨t', rfl⟩ := ry; exact PySem.EqMixed.ne_int_str (fin_bl I q (by simp))
    | _ => exact absurd (show false = true from hs) Bool.false_ne_true
  | str i =>
    obtain ⟨t, rfl⟩ := rx
    cases y with
    | non => cases ry; exact PySem.EqNone.ne_str_none (fin_bl I q (by simp))
    | bl j => cases ry; exact PySem.EqMixed.ne_str_bool (fin_bl I q (by simp))
    | int j => obtain ⟨t', rfl⟩ := ry; exact PySem.EqMixed.ne_str_int (fin_bl I q (by simp))
    | str j => obtain ⟨t', rfl⟩ := ry; exact ne_str (fin_bl I q (congrArg not dec_str))
    | _ => exact absurd (show false = true from hs) Bool.false_ne_true
  | byt i =>
    obtain ⟨t, rfl⟩ := rx
    cases y with
    | byt j => obtain ⟨t', rfl⟩ := ry; exact PySem.W.ne_bytes (fin_bl I q (congrArg not dec_byt))
    | _ => exact absurd (show false = true from hs) Bool.false_ne_true
  | _ => cases y <;> exact absurd (show false = true from hs) Bool.false_ne_true
theorem op_lt : OpR X (compareOp .Lt) (rI0 fun i j => .bl (decide (i < j))) := opB0 fun _ _ _ _ _ _ _ q => lt_int q
theorem op_le : OpR X (compareOp .LtE) (rI0 fun i j => .bl (decide (i ≤ j))) := opB0 fun _ _ _ _ _ _ _ q => le_int q
theorem op_gt : OpR X (compareOp .Gt) (rI0 fun i j => .bl (decide (j < i))) := opB0 fun _ _ _ _ _ _ _ q => gt_int q
theorem op_ge : OpR X (compareOp .GtE) (rI0 fun i j => .bl (decide (j ≤ i))) := opB0 fun _ _ _ _ _ _ _ q => ge_int q
theorem op_isN : OpR X (compareOp .Is) (fun x y H Q => y = .non ∧ Q (.bl (decide (x = .non))) H) := by
  intro pins s σ H x y v u Q I rx ry h
  obtain ⟨rfl, q⟩ := h
  cases ry
  refine is_none_gen (fin_bl I q ?_)
  cases x <;> first
    | (cases rx; rfl)
    | (obtain ⟨t, rfl⟩ := rx; rfl)
theorem nomark (b : Expr) {op : CmpOp} (h : op ≠ .In := by decide) (h2 : op ≠ .NotIn := by decide) : behindInMarks op b = false := by
  have e1 : (op == CmpOp.In) = false := by cases op <;> first | rfl | exact absurd rfl h
  have e2 : (op == CmpOp.NotIn) = false := by cases op <;> first | rfl | exact absurd rfl h2
  cases b <;> simp [behindInMarks, e1, e2]
theorem pe_cmpR {op : CmpOp} {r : R2} (ho : OpR X (compareOp op) r) (ha : PE X a ta) (hb : PE X b tb) (hm : behindInMarks op b = false) : PE X (.Compare a [op] [b] pos) (tOp r ta tb) := by
  intro pins s σ H Q I h
  exact wpAny_Compare1 (binT ha hb I h fun v u s2 x y H2 I2 rx ry q => ho pins s2 σ H2 x y v u Q I2 rx ry q) hm
def tTest (t : TE) : TT := fun σ H Q => t σ H fun x H' => ∃ k, x = .bl k ∧ Q k H'
theorem pt_cmpR {op : CmpOp} {r : R2} (ho : OpR X (compareOp op) r) (ha : PE X a ta) (hb : PE X b tb) (hm : behindInMarks op b = false) : PT X (.Compare a [op] [b] pos) (tTest (tOp r ta tb)) := by
  intro pins s σ H Q I h
  refine wpAny_isTrue_Compare1 (thn (ha pins s σ H _ I h) fun v s1 ⟨x, H1, I1, r1, q1⟩ => thn (hb pins s1 σ H1 _ I1 q1) fun u s2 ⟨y, H2, I2, r2, q2⟩ =>
    thn (ho pins s2 σ H2 x y v u _ I2 r1 r2 q2) fun c s3 ⟨z, H3, I3, r3, k, e, q3⟩ => ?_) hm
  subst e
  cases r3
  exact wpAny_truthy_bool ⟨H3, I3, q3⟩
def tChain (r r' : R2) (ta tb tc : TE) : TE := fun σ H Q => ta σ H fun x H1 => tb σ H1 fun y H2 => r x y H2 fun z H3 => ∃ k, z = .bl k ∧
  (if k = true then tc σ H3 fun w' H4 => r' y w' H4 Q else Q (.bl false) H3)
theorem pe_chain {op op' : CmpOp} {r r' : R2} (ho : OpR X (compareOp op) r) (ho' : OpR X (compareOp op') r') (ha : PE X a ta) (hb : PE X b tb) (hc : PE X c tc)
    (hm : lastMarks [op, op'] [b, c] = false := by with_unfolding_all rfl) : PE X (.Compare a [op, op'] [b, c] pos) (tChain r r' ta tb tc) := by
  intro pins s σ H Q I h
  refine Compare_chain (thn (ha pins s σ H _ I h) fun v s1 ⟨x, H1, I1, r1, q1⟩ => chain_link (thn (hb pins s1 σ H1 _ I1 q1) fun u s2 ⟨y, H2, I2, r2, q2⟩ =>
    thn (ho pins s2 σ H2 x y v u _ I2 r1 r2 q2) fun d s3 ⟨z, H3, I3, r3, k, e, q3⟩ => ?_)) hm
  subst e
  cases r3
  refine wpAny_truthy_bool ?_
  cases k with
  | false => exact ite_ff ⟨.bl false, H3, I3, rfl, q3⟩
  | true => exact ite_tt (chain_last (thn (hc pins s3 σ H3 _ I3 q3) fun w' s4 ⟨z', H4, I4, r4, q4⟩ => ho' pins s4 σ H4 y z' u w' Q I4 r2 r4 q4))
theorem pt_chain {op op' : CmpOp} {r r' : R2} (ho : OpR X (compareOp op) r) (ho' : OpR X (compareOp op') r') (ha : PE X a ta) (hb : PE X b tb) (hc : PE X c tc)
    (hm : lastMarks [op, op'] [b, c] = false := by with_unfolding_all rfl) : PT X (.Compare a [op, op'] [b, c] pos) (tTest (tChain r r' ta tb tc)) := by
  intro pins s σ H Q I h
  refine isTrue_chain (thn (ha pins s σ H _ I h) fun v s1 ⟨x, H1, I1, r1, q1⟩ => test_link (thn (hb pins s1 σ H1 _ I1 q1) fun u s2 ⟨y, H2, I2, r2, q2⟩ =>
    thn (ho pins s2 σ H2 x y v u _ I2 r1 r2 q2) fun d s3 ⟨z, H3, I3, r3, k, e, q3⟩ => ?_)) hm
  subst e
  cases r3
  refine wpAny_truthy_bool ?_
  cases k with
  | false =>
    obtain ⟨k', e', q'⟩ := q3
    cases e'
    exact ite_ff ⟨H3, I3, q'⟩
  | true =>
    refine ite_tt (test_last (thn (hc pins s3 σ H3 _ I3 q3) fun w' s4 ⟨z', H4, I4, r4, q4⟩ => thn (ho' pins s4 σ H4 y z' u w' _ I4 r2 r4 q4) fun d' s5 ⟨z2, H5, I5, r5, k2, e2, q5⟩ => ?_))
    subst e2
    cases r5
    exact wpAny_truthy_bool ⟨H5, I5, q5⟩
def TruV (K : PySem.W.Frag) (x : V) (H : Hp) (k : Bool) : Prop :=
  match x with
  | .non => k = false
  | .bl b => k = b
  | .int i => k = (i != 0)
  | .str y => y.length ≤ sizeLine ∧ k = ((y.length : Int) != 0)
  | .byt y => y.size ≤ sizeLine ∧ k = ((y.size : Int) != 0)
  | .ref p => (∃ xs, SqL K H p xs ∧ k = !xs.isEmpty) ∨ (∃ xs, SqT K H p xs ∧ k = !xs.isEmpty) ∨ ∃ kvs, H p = some (.dK kvs) ∧ k = !kvs.isEmpty
  | _ => False
theorem isEmpty_kv {κ : Type} {kvs : List (κ × V)} {vs : List (κ × Value)} (r : KV kvs vs) : (!vs.isEmpty) = !kvs.isEmpty := by
  cases r <;> rfl
theorem isEmpty_of {xs : List V} {its : List Value} (r : Vals xs its) : (!its.toArray.isEmpty) = !xs.isEmpty := by
  cases r <;> simp
theorem line63 : (sizeLine : Nat) < 2 ^ 63 := by rw [sizeLine_eq]; decide
theorem tru_ok : TruR X (fun x H Q => ∃ k, TruV X.K x H k ∧ Q k H) := by
  intro pins s σ H x v Q I rx h
  obtain ⟨k, e, q⟩ := h
  have hl := line63
  have hs : sizeLine = 16777216 := sizeLine_eq
  cases x with
  | non =>
    cases rx
    have e' : k = false := e
    subst e'
    exact truthy_none ⟨H, I, q⟩
  | bl b =>
    cases rx
    have e' : k = b := e
    subst e'
    exact wpAny_truthy_bool ⟨H, I, q⟩
  | int i =>
    obtain ⟨t, rfl⟩ := rx
    have e' : k = (i != 0) := e
    subst e'
    exact PySem.P.truthy_int ⟨H, I, q⟩
  | str y =>
    obtain ⟨t, rfl⟩ := rx
    obtain ⟨hy, e'⟩ : y.length ≤ sizeLine ∧ k = ((y.length : Int) != 0) := e
    subst e'
    exact PySem.P.truthy_str (by omega) ⟨H, I.tok _, q⟩
  | byt y =>
    obtain ⟨t, rfl⟩ := rx
    obtain ⟨hy, e'⟩ : y.size ≤ sizeLine ∧ k = ((y.size : Int) != 0) := e
    subst e'
    exact PySem.W.truthy_bytes (by omega) ⟨H, I.tok _, q⟩
  | ref p =>
    cases rx
    have e' : (∃ xs, SqL X.K H p xs ∧ k = !xs.isEmpty) ∨ (∃ xs, SqT X.K H p xs ∧ k = !xs.isEmpty) ∨ ∃ kvs, H p = some (.dK kvs) ∧ k = !kvs.isEmpty := e
    rcases e' with ⟨xs, hx, e'⟩ | ⟨xs, hx, e'⟩ | ⟨kvs, hx, e'⟩
    · subst e'
      obtain ⟨its, r, pl, hz⟩ := I.list hx
      have hlen := r.length
      exact wpAny_truthy_list pl.isList (by simp only [List.size_toArray]; omega) ⟨H, I.tok _, by rw [isEmpty_of r]; exact q⟩
    · subst e'
      obtain ⟨its, r, pl, hz⟩ := I.tuple hx
      have hlen := r.length
      exact truthy_tuple pl (by simp only [List.size_toArray]; omega) ⟨H, I.tok _, by rw [isEmpty_of r]; exact q⟩
    · subst e'
      obtain ⟨hz, hS, vs, r, m⟩ : kvs.length ≤ sizeLine ∧ (p == sysModules) = false ∧ ∃ vs, KV kvs vs ∧ s.heap.DictOf (mixKind X.prog X.w) p vs := I.hok p _ hx
      have hlen : kvs.length = vs.length := Paired.length r
      exact wpAny_truthy_dict hS m (by omega) ⟨H, I.tok _, by rw [isEmpty_kv r]; exact q⟩
  | _ => exact (show False from e).elim
theorem pt_truth (ha : PE X a ta) (he : ∀ whole, isTrue a X.env whole = (do let v ← whole; standAt a.pos; holding [v] (truthy v))) :
    PT X a (fun σ H Q => ta σ H fun x H' => ∃ k, TruV X.K x H' k ∧ Q k H') := by
  intro pins s σ H Q I h
  exact isTrue_plain (thn (ha pins s σ H _ I h) fun v s1 ⟨x, H1, I1, r1, q1⟩ => tru_ok pins s1 σ H1 x v Q I1 r1 q1) (he _)
theorem op_add_str : OpR X (binaryOp .Add) (fun x y H Q => ∃ i j, x = .str i ∧ y = .str j ∧ i.length + j.length ≤ sizeLine ∧ Q (.str (i ++ j)) H) := by
  intro pins s σ H x y v u Q I rx ry h
  obtain ⟨i, j, rfl, rfl, hz, q⟩ := h
  obtain ⟨t, rfl⟩ := rx
  obtain ⟨t', rfl⟩ := ry
  exact add_str (fun t' tk => ⟨.str (i ++ j), H, I.tok _, ⟨_, rfl⟩, q⟩) hz
theorem vals1 {x : V} {us : List Value} (r : Vals [x] us) : ∃ u, us = [u] ∧ RelV x u := by
  cases r with
  | cons r1 r2 => cases r2; exact ⟨_, rfl, r1⟩
theorem vals2 {x y : V} {us : List Value} (r : Vals [x, y] us) : ∃ u w', us = [u, w'] ∧ RelV x u ∧ RelV y w' := by
  cases r with
  | cons r1 r2 =>
    cases r2 with
    | cons r3 r4 => cases r4; exact ⟨_, _, rfl, r1, r3⟩
end
end L2
namespace L2
open PySem PySem.Spec PyProof.Rows
structure ObjM (h : Heap) (x dx C : Addr) (mA : Str → Option Value) : Prop where
  obj : h.get? x = some (PySem.W.instObj C dx)
  ns : h.Ns1 dx mA
  ne : dx ≠ x
theorem lookIn_ns {h : Heap} {dx : Addr} {mA : Str → Option Value} (n : h.Ns1 dx mA) : ∃ od, h.get? dx = some od ∧ ∀ name, PySem.W.lookIn name od = some (mA name) := by
  obtain ⟨o, es, ep, ho, hd, hk, _, hm⟩ := n
  refine ⟨o, ho, fun name => ?_⟩
  have e := hm name
  unfold nsFind findBy at e
  rw [← Array.find?_toList] at e
  unfold PySem.W.lookIn
  rw [hd]
  dsimp only
  split
  · rename_i y q
    rw [q] at e
    exact congrArg some e
  · rename_i q
    rw [q] at e
    have a : es.toList.any (·.refKey) = false := by
      rw [List.any_eq_false]
      intro y hy
      obtain ⟨z, t, hkey⟩ := hk y (Array.mem_toList_iff.mp hy)
      simp [DictEntry.refKey, hkey]
    have a' : ¬ es.toList.any (·.refKey) = true := by rw [a]; exact Bool.false_ne_true
    rw [if_neg a']
    exact congrArg some e
theorem ObjM.look {h : Heap} {x dx C : Addr} {mA : Str → Option Value} (I : ObjM h x dx C mA) : ∃ od, PySem.W.InstAt h x (PySem.W.instObj C dx) C (some od) ∧ ∀ name, PySem.W.lookIn name od = some (mA name) :=
  let ⟨od, ho, hl⟩ := lookIn_ns I.ns
  ⟨od, ⟨I.obj, rfl, rfl, ho⟩, hl⟩
section
variable {prog : Program} {w : World} {A : Around} {E : Value → Shared → Prop} {s : Shared} {K : PySem.W.Frag} {x dx C f : Addr} {mA : Str → Option Value} {name : Str} {v : Value}
theorem get_map {expr : Bool} {Q : Value → Shared → Prop} (X : K.In s.heap) (I : ObjM s.heap x dx C mA) (hg : PySem.W.plainGet K C name = true) (hh : PySem.W.hasDictIn K C = true)
    (ha : PySem.W.findIn K (.ref C) name = some none) (hv : mA name = some v) (hv' : PySem.W.handedIn v = true) (h : Q v { s with toks := s.toks + 1 }) :
    wpAny (model prog w) A (getAttr (.ref x) name expr) Q E s := by
  obtain ⟨od, J, hl⟩ := I.look
  exact PySem.W.get_value X J (PySem.W.plainGet_of hg).1 (PySem.W.findObj_own hh ha rfl (by rw [hl, hv])) hv' h
theorem get_meth {pl : Sem Bool} {Q : Value × List Value → Shared → Prop} (X : K.In s.heap) (I : ObjM s.heap x dx C mA) (hg : PySem.W.plainGet K C name = true)
    (hf : PySem.W.findIn K (.ref C) name = some (some (.ref f))) (ht : PySem.W.isFn K (.ref f) = true) (hv : mA name = none) (h : Q (.ref f, [.ref x]) s) :
    wpAny (model prog w) A (getMethod (.ref x) name pl) Q E s := by
  obtain ⟨od, J, hl⟩ := I.look
  exact PySem.W.method_fn X J (PySem.W.plainGet_of hg).1 (PySem.W.plainGet_of hg).2 hf (beq_iff_eq.mp ht) (by show (PySem.W.lookIn name od).map (·.isSome) = some false; rw [hl, hv]; rfl) h
theorem set_map {ns : List Str} {Q : Unit → Shared → Prop} (X : K.In s.heap) (I : ObjM s.heap x dx C mA)
    (hs : PySem.W.findIn K (.ref C) "__setattr__" = some (some (.builtin "object.__setattr__"))) (hp : PySem.W.plainOver K C = true) (ht : PySem.W.takerIn K C name = some none) (hh : PySem.W.hasDictIn K C = true)
    (hw : PySem.Within mA ns) (hsz : ns.length ≤ sizeLine)
    (h : ∀ h', ObjM h' x dx C (fun y => if y = name then some v else mA y) → Heap.SameBut dx s.heap h' → Q () { s with heap := h', toks := s.toks + 2 }) :
    wpAny (model prog w) A (setAttr (.ref x) name v) Q E s := by
  obtain ⟨od, J, hl⟩ := I.look
  refine PySem.W.set_plain X J hs (PySem.W.osa_open (s := { s with toks := s.toks + 1 }) (r := none) X J hp ht fun b => ?_)
  obtain ⟨cd, hc, hd'⟩ := PySem.W.any_some hh
  have hx : s.heap.get? x = some ⟨.ref C, some dx, .plain, #[]⟩ := I.obj
  refine wpAny_bind (wpAny_pure (wpAny_bind (wpAny_bind (wpAny_loadPart hx (wpAny_bind (PySem.W.Looks.here (s := { s with toks := s.toks + 1 }) (PySem.W.looks_clsIn X hc) ?_))))))
  rw [hd']
  refine wpAny_pure (a := some dx) (wpAny_bind (wpAny_pure (wpAny_bind ?_)))
  refine wpAny_nsSet1 (s := { s with toks := s.toks + 1 }) I.ns fun h' hn2 hs2 => ?_
  obtain ⟨oD, esD, epD, hoD, hdD, hcD⟩ := hn2.count (PySem.Within.cons name v hw)
  refine wpAny_bind (wpAny_lookBehind hoD (by rw [hdD]; exact pastItsLine_dict (Nat.le_trans hcD (by rw [List.length_cons]; omega))) ?_)
  exact wpAny_pure (h _ ⟨(hs2.2 _ (Ne.symm I.ne)).trans I.obj, hn2, I.ne⟩ hs2)
theorem make_map {R : Result → Shared → Prop} {vs : List Value} {kw : List (Str × Value)} (X : K.In s.heap) (hm : PySem.W.makesIn K C = true)
    (hi : PySem.W.findIn K (.ref C) "__init__" = some (some (.ref f))) (hf : PySem.W.typeIn K (.ref f) = some (.type "function"))
    (h : codeAny (model prog w) (A.under (.builtin "type.__call__" ⟨.ref C :: vs, kw⟩)) (.call (.ref f) ⟨.ref (s.heap.objs.size + 1) :: vs, kw⟩) (PySem.W.InitBack (s.heap.objs.size + 1) R)
      { s with heap := (s.heap.push PySem.W.emptyDict).push (PySem.W.instObj C s.heap.objs.size) }) :
    codeAny (model prog w) A (.call (.ref C) ⟨vs, kw⟩) R s := by
  obtain ⟨hh, g, d, t, os⟩ := s
  exact PySem.W.make_core (PySem.W.makes_of X hm) (PySem.W.looks_findIn X hi) (fun self => PySem.W.bind_fn X self hf) (.inl rfl) h
end
def putF (f : Str) (v : V) : List (Str × V) → List (Str × V)
  | [] => [(f, v)]
  | (g, x) :: r => if g = f then (g, v) :: r else (g, x) :: putF f v r
theorem lookup_putF (f g : Str) (v : V) : ∀ fs : List (Str × V), (putF f v fs).lookup g = if g = f then some v else fs.lookup g
  | [] => by
    show List.lookup g [(f, v)] = _
    by_cases h : g = f
    · have hb : (g == f) = true := beq_iff_eq.mpr h
      simp only [List.lookup, hb, if_pos h]
    · have hb : (g == f) = false := beq_eq_false_iff_ne.mpr h
      simp only [List.lookup, hb, if_neg h]
  | (k, x) :: r => by
    have ih := lookup_putF f g v r
    rw [show putF f v ((k, x) :: r) = (if k = f then (k, v) :: r else (k, x) :: putF f v r) from rfl]
    by_cases hk : k = f
    · rw [if_pos hk]
      by_cases h : g = k
      · have hb : (g == k) = true := beq_iff_eq.mpr h
        simp only [List.lookup, hb, if_pos (h.trans hk)]
      · have hb : (g == k) = false := beq_eq_false_iff_ne.mpr h
        simp only [List.lookup, hb, if_neg (fun e : g = f => h (e.trans hk.symm))]
    · rw [if_neg hk]
      by_cases h : g = k
      · have hb : (g == k) = true := beq_iff_eq.mpr h
        simp only [List.lookup, hb, if_neg (fun e : g = f => hk (h.symm.trans e))]
      · have hb : (g == k) = false := beq_eq_false_iff_ne.mpr h
        simp only [List.lookup, hb]
        exact ih
theorem keys_putF (f : Str) (v : V) : ∀ fs : List (Str × V), f ∈ (putF f v fs).map (·.1) ∧ ∀ g, g ∈ fs.map (·.1) → g ∈ (putF f v fs).map (·.1)
  | [] => ⟨by simp [putF], fun g h => by simp at h⟩
  | (k, x) :: r => by
    obtain ⟨i1, i2⟩ := keys_putF f v r
    rw [show putF f v ((k, x) :: r) = (if k = f then (k, v) :: r else (k, x) :: putF f v r) from rfl]
    by_cases hk : k = f
    · rw [if_pos hk]
      subst hk
      exact ⟨by simp, fun g h => by simpa using h⟩
    · rw [if_neg hk]
      refine ⟨?_, fun g h => ?_⟩
      · rw [List.map_cons]
        exact List.mem_cons_of_mem _ i1
      · rw [List.map_cons] at h ⊢
        rcases List.mem_cons.mp h with e | e
        · exact List.mem_cons.mpr (.inl e)
        · exact List.mem_cons_of_mem _ (i2 g e)
theorem length_putF (f : Str) (v : V) : ∀ fs : List (Str × V), (putF f v fs).length ≤ fs.length + 1
  | [] => by simp [putF]
  | (k, x) :: r => by
    have ih := length_putF f v r
    rw [show putF f v ((k, x) :: r) = (if k = f then (k, v) :: r else (k, x) :: putF f v r) from rfl]
    by_cases hk : k = f
    · rw [if_pos hk, List.length_cons, List.length_cons]; omega
    · rw [if_neg hk, List.length_cons, List.length_cons]; omega
theorem RelO.some_of {v : V} {o : Option Value} (r : RelO (some v) o) : ∃ u, o = some u ∧ RelV v u := by
  cases o with
  | none => exact (show False from r).elim
  | some u => exact ⟨u, rfl, r⟩
theorem RelO.none_of {o : Option Value} (r : RelO none o) : o = none := by
  cases o with
  | none => rfl
  | some u => exact (show False from r).elim
theorem handed_of {v : V} {u : Value} (r : RelV v u) : PySem.W.handedIn u = true := by
  cases v with
  | non => cases (show u = Value.none from r); rfl
  | bl b => cases (show u = Value.bool b from r); rfl
  | int i => obtain ⟨t, e⟩ := (show ∃ t, u = Value.int i t from r); cases e; rfl
  | str x => obtain ⟨t, e⟩ := (show ∃ t, u = Value.str x t from r); cases e; rfl
  | byt b => obtain ⟨t, e⟩ := (show ∃ t, u = Value.bytes b t from r); cases e; rfl
  | flt b => obtain ⟨t, e⟩ := (show ∃ t, u = Value.float b t from r); cases e; rfl
  | ref a => cases (show u = Value.ref a from r); rfl
  | ty n => cases (show u = Value.type n from r); rfl
section
variable {P : Program} {w : World} {H H' : Hp} {h h' : Heap} {a C dx : Addr} {fs fs' : List (Str × V)}
theorem ins_get (hok : HOk P w H h) (e : H a = some (.ins C dx fs)) : ∃ mA, ObjM h a dx C mA ∧ (∀ f, RelO (fs.lookup f) (mA f)) ∧ PySem.Within mA (fs.map (·.1)) ∧ fs.length ≤ 1000 ∧ H dx = some (.own a) := by
  obtain ⟨d, z, ne, ob, mA, n, r, q⟩ := (show ObjOk P w H h a (.ins C dx fs) from hok a _ e)
  exact ⟨mA, ⟨ob, n, ne⟩, r, q, z, d⟩
end
structure Cls (K : PySem.W.Frag) (C : Addr) : Prop where
  pg : PySem.W.plainGet K C Str.empty = true
  hd : PySem.W.hasDictIn K C = true
  po : PySem.W.plainOver K C = true
  sa : PySem.W.findIn K (.ref C) "__setattr__" = some (some (.builtin "object.__setattr__"))
theorem Cls.get {K : PySem.W.Frag} {C : Addr} (c : Cls K C) (f : Str) : PySem.W.plainGet K C f = true := c.pg
def NoAttr (K : PySem.W.Frag) (C : Addr) (f : Str) : Prop := PySem.W.findIn K (.ref C) f = some none
theorem NoAttr.taker {K : PySem.W.Frag} {C : Addr} {f : Str} (n : NoAttr K C f) : PySem.W.takerIn K C f = some none := by
  unfold PySem.W.takerIn
  rw [show PySem.W.findIn K (.ref C) f = some none from n]
  rfl
structure Meth (K : PySem.W.Frag) (C : Addr) (m : Str) (f : Addr) : Prop where
  at_ : PySem.W.findIn K (.ref C) m = some (some (.ref f))
  fn : PySem.W.isFn K (.ref f) = true
  kp : PySem.W.keepIn K (.ref f) = true
section
variable {X : Cx} {pins : List (Addr × Obj)} {σ : St} {H : Hp} {s : Shared} {a C dx : Addr} {fs : List (Str × V)} {f : Str} {v : V} {A : Around} {E : Value → Shared → Prop}
theorem getattr_ok {b : Bool} {Q : Value → Shared → Prop} (I : Inv X pins σ H s) (e : H a = some (.ins C dx fs)) (c : Cls X.K C) (n : NoAttr X.K C f) (l : fs.lookup f = some v)
    (h : ∀ u s', Inv X pins σ H s' → RelV v u → Q u s') : wpAny (model X.prog X.w) A (getAttr (.ref a) f b) Q E s := by
  obtain ⟨mA, O, r, _, _, _⟩ := ins_get I.hok e
  obtain ⟨u, hu, ru⟩ := RelO.some_of (v := v) (o := mA f) (by rw [← l]; exact r f)
  exact get_map I.kIn O (c.get f) c.hd n hu (handed_of ru) (h u _ (I.tok _) ru)
theorem getmeth_ok {m : Str} {g : Addr} {pl : Sem Bool} {Q : Value × List Value → Shared → Prop} (I : Inv X pins σ H s) (e : H a = some (.ins C dx fs)) (c : Cls X.K C) (k : Meth X.K C m g) (l : fs.lookup m = none)
    (h : Q (.ref g, [.ref a]) s) : wpAny (model X.prog X.w) A (getMethod (.ref a) m pl) Q E s := by
  obtain ⟨mA, O, r, _, _, _⟩ := ins_get I.hok e
  have hn : mA m = none := RelO.none_of (by rw [← l]; exact r m)
  exact get_meth I.kIn O (c.get m) k.at_ k.fn hn h
theorem setattr_ok {y : V} {u : Value} {Q : Unit → Shared → Prop} (I : Inv X pins σ H s) (e : H a = some (.ins C dx fs)) (c : Cls X.K C) (n : NoAttr X.K C f) (hl : fs.length < 1000) (ry : RelV y u)
    (h : ∀ s', Inv X pins σ (upd H a (.ins C dx (putF f y fs))) s' → Q () s') : wpAny (model X.prog X.w) A (setAttr (.ref a) f u) Q E s := by
  obtain ⟨mA, O, r, wi, _, ho⟩ := ins_get I.hok e
  have hz : (fs.map (·.1)).length ≤ sizeLine := by rw [List.length_map, sizeLine_eq]; omega
  refine set_map I.kIn O c.sa c.po n.taker c.hd wi hz fun h' O' sb => h _ ?_
  have hd : ∃ o, h'.get? dx = some o := let ⟨o, _, _, e', _⟩ := O'.ns; ⟨o, e'⟩
  refine I.write (x := a) (e := dx) (by rw [e]; exact True.intro) (.inr ho) (fun b q hb z => (sb.2 b hb).trans z) hd ?_
  refine ⟨by rw [upd_ne O.ne]; exact ho, ?_, O.ne, O'.obj, _, O'.ns, fun g => ?_, fun g hg => ?_⟩
  · have := length_putF f y fs; omega
  · show RelO ((putF f y fs).lookup g) (if g = f then some u else mA g)
    rw [lookup_putF]
    by_cases q : g = f
    · rw [if_pos q, if_pos q]; exact ry
    · rw [if_neg q, if_neg q]; exact r g
  · by_cases q : g = f
    · rw [q]; exact (keys_putF f y fs).1
    · refine (keys_putF f y fs).2 g (wi g fun z => hg ?_)
      show (if g = f then some u else mA g) = none
      rw [if_neg q]; exact z
theorem Inv.made (I : Inv X pins σ H s) : Inv X pins σ (upd (upd H s.heap.objs.size (.own (s.heap.objs.size + 1))) (s.heap.objs.size + 1) (.ins C s.heap.objs.size []))
    { s with heap := (s.heap.push PySem.W.emptyDict).push (PySem.W.instObj C s.heap.objs.size) } := by
  have e1 : (s.heap.push PySem.W.emptyDict).get? s.heap.objs.size = some PySem.W.emptyDict := Heap.get?_push_size s.heap rfl
  have e2 : ((s.heap.push PySem.W.emptyDict).push (PySem.W.instObj C s.heap.objs.size)).get? (s.heap.objs.size + 1) = some (PySem.W.instObj C s.heap.objs.size) := by
    have := Heap.get?_push_size (s.heap.push PySem.W.emptyDict) (o := PySem.W.instObj C s.heap.objs.size) rfl
    rwa [Heap.size_push] at this
  have e3 : (s.heap.push PySem.W.emptyDict).Ns s.heap.objs.size (fun _ => none) := ⟨PySem.W.emptyDict, #[], _, e1, rfl, (fun e he => absurd he (by simp)), fun _ => rfl⟩
  have I1 := I.laid (a := s.heap.objs.size) (o := .own (s.heap.objs.size + 1)) (h' := s.heap.push PySem.W.emptyDict) (t' := s.toks) (fun b u q => Heap.get?_push_of_some _ q) (Nat.le_refl _) ⟨_, e1⟩
  refine I1.laid (a := s.heap.objs.size + 1) (o := .ins C s.heap.objs.size []) (t' := s.toks) (fun b u q => Heap.get?_push_of_some _ q) (Nat.le_of_eq (Heap.size_push _ _)) ?_
  have ne : s.heap.objs.size ≠ s.heap.objs.size + 1 := Nat.ne_of_lt (Nat.lt_succ_self _)
  refine ⟨by rw [upd_ne ne, upd_same], Nat.zero_le _, ne, e2, fun _ => none, (Heap.Ns1.of_empty e3).at fun o q => Heap.get?_push_of_some _ q, fun _ => True.intro, fun y hy => absurd rfl hy⟩
theorem attr_of {prog : Program} {w : World} {env : Env} {e : Expr} {f : Str} {pos : Pos} {s : Shared} {Q : Value → Shared → Prop} (hb : attributeBase e f env (eval e env) = eval e env)
    (h : wpAny (model prog w) A (eval e env) (fun o s₁ => wpAny (model prog w) A (getAttr o f true) Q E s₁) E s) : wpAny (model prog w) A (eval (.Attribute e f pos) env) Q E s :=
  Attribute_any_ h (by rw [arm_eval_Attribute, hb])
end
def tFld (K : PySem.W.Frag) (ta : TE) (f : Str) : TE := fun σ H Q => ta σ H fun x H1 => ∃ a C dx fs v, x = .ref a ∧ H1 a = some (.ins C dx fs) ∧ Cls K C ∧ NoAttr K C f ∧ fs.lookup f = some v ∧ Q v H1
def sFld (K : PySem.W.Frag) (ta tv : TE) (f : Str) : TS := fun D σ H => tv σ H fun y H1 => ta σ H1 fun x H2 => ∃ a C dx fs, x = .ref a ∧ H2 a = some (.ins C dx fs) ∧ Cls K C ∧ NoAttr K C f ∧ fs.length < 1000 ∧
  D.nx σ (upd H2 a (.ins C dx (putF f y fs)))
section
variable {X : Cx} {o e value : Expr} {f : Str} {pos pos' tpos : Pos} {ta tv : TE}
theorem pe_fld (he : PE X e ta) (hb : attributeBase e f X.env (eval e X.env) = eval e X.env) : PE X (.Attribute e f pos) (tFld X.K ta f) := by
  intro pins s σ H Q I h
  refine attr_of hb (thn (he pins s σ H _ I h) fun u s1 ⟨x, H1, I1, rx, a, C, dx, fs, v, ex, ea, c, n, l, q⟩ => ?_)
  subst ex
  obtain rfl : u = Value.ref a := rx
  exact getattr_ok I1 ea c n l fun u' s2 I2 ru => ⟨v, H1, I2, ru, q⟩
theorem ps_fld (ha : PE X o ta) (hv : PE X value tv) (hs : swapsWith value (some (.Attribute o f pos')) pos.line X.env = pure false) : PS X (.Assign [.Attribute o f pos'] value pos) (sFld X.K ta tv f) := by
  intro pins s σ H D I h
  refine plainObj_wpAny_Assign_Attribute (thn (hv pins s σ H _ I h) fun u s1 ⟨y, H1, I1, ry, q⟩ => thn (ha pins s1 σ H1 _ I1 q) fun ov s2 ⟨x, H2, I2, rx, a, C, dx, fs, ex, ea, c, n, l, q2⟩ => ?_) hs
  subst ex
  obtain rfl : ov = Value.ref a := rx
  exact setattr_ok I2 ea c n l ry fun s3 I3 => ⟨σ, _, I3, q2⟩
end
section
variable {X : Cx} {pins : List (Addr × Obj)} {σ : St} {H : Hp} {s : Shared} {A : Around} {E : Value → Shared → Prop} {Q : Value → Shared → Prop} {c : Value} {b : Bool}
inductive TyOf (K : PySem.W.Frag) (H : Hp) : V → Value → Prop where
  | non : TyOf K H .non (.type "NoneType")
  | bl (x : Bool) : TyOf K H (.bl x) (.type "bool")
  | int (i : Int) : TyOf K H (.int i) (.type "int")
  | str (x : Str) : TyOf K H (.str x) (.type "str")
  | flt (x : UInt64) : TyOf K H (.flt x) (.type "float")
  | lst {a : Addr} {xs : List V} (e : H a = some (.lst xs)) : TyOf K H (.ref a) (.type "list")
  | frz {a : Addr} {o : Obj} {xs : List V} (e : H a = some (.frz o (.lst xs))) : TyOf K H (.ref a) (.type "list")
  | tup {a : Addr} {xs : List V} (e : H a = some (.tup xs)) : TyOf K H (.ref a) (.type "tuple")
  | dK {a : Addr} {kvs : List (Key × V)} (e : H a = some (.dK kvs)) : TyOf K H (.ref a) (.type "dict")
  | dT {a : Addr} {kvs : List (List Key × V)} (e : H a = some (.dT kvs)) : TyOf K H (.ref a) (.type "dict")
  | ins {a C dx : Addr} {fs : List (Str × V)} (e : H a = some (.ins C dx fs)) (cl : Cls K C) (ha : PySem.W.findIn K (.ref C) "__class__" = some (some (.builtin "object.__class__")))
      (hn : PySem.W.specialIn K (.builtin "object.__class__") "__get__" = some (some (.builtin "getset_descriptor.__get__"))) (htk : PySem.W.takesIn K (.builtin "object.__class__") = some true)
      (hm : PySem.W.mroIn K C (.type "object") = some true) : TyOf K H (.ref a) (.ref C)
theorem isinst_ok {x : V} {u t : Value} (I : Inv X pins σ H s) (rx : RelV x u) (ty : TyOf X.K H x t) (e : PySem.W.kitOne X.K t c = some b) (h : ∀ tk, Q (.bool b) { s with toks := tk }) :
    wpAny (model X.prog X.w) A (call (.builtin "isinstance") [u, c]) Q E s := by
  cases ty with
  | non => cases (show u = Value.none from rx); exact PySem.W.kia_one PySem.W.kitx_none I.kIn True.intro e (fun z => nomatch z) h
  | bl y => cases (show u = Value.bool y from rx); exact PySem.W.kia_one PySem.W.kitx_bool I.kIn True.intro e (fun z => nomatch z) h
  | int i => obtain ⟨t, q⟩ := (show ∃ t, u = Value.int i t from rx); cases q; exact PySem.W.kia_one PySem.W.kitx_int I.kIn True.intro e (fun z => nomatch z) h
  | str y => obtain ⟨t, q⟩ := (show ∃ t, u = Value.str y t from rx); cases q; exact PySem.W.kia_one PySem.W.kitx_str I.kIn True.intro e (fun z => nomatch z) h
  | flt y => obtain ⟨t, q⟩ := (show ∃ t, u = Value.float y t from rx); cases q; exact PySem.W.kia_one PySem.W.kitx_float I.kIn True.intro e (fun z => nomatch z) h
  | @lst a xs ea =>
    cases (show u = Value.ref a from rx)
    obtain ⟨_, _, n, _, h1⟩ := (show ObjOk X.prog X.w H s.heap a (.lst xs) from I.hok a _ ea)
    exact PySem.W.kia_one PySem.W.kitx_list I.kIn ⟨_, h1, rfl⟩ e (fun z => nomatch z) h
  | @frz a ob xs ea =>
    cases (show u = Value.ref a from rx)
    obtain ⟨_, _, _, n, _, h1⟩ := (show ObjOk X.prog X.w H s.heap a (.frz ob (.lst xs)) from I.hok a _ ea)
    exact PySem.W.kia_one PySem.W.kitx_list I.kIn ⟨_, h1, rfl⟩ e (fun z => nomatch z) h
  | @tup a xs ea =>
    cases (show u = Value.ref a from rx)
    obtain ⟨_, _, _, p⟩ := (show ObjOk X.prog X.w H s.heap a (.tup xs) from I.hok a _ ea)
    obtain ⟨o, h1, h2, _⟩ := p
    exact PySem.W.kia_one PySem.W.kitx_tuple I.kIn ⟨o, h1, h2⟩ e (fun z => nomatch z) h
  | @dK a kvs ea =>
    cases (show u = Value.ref a from rx)
    obtain ⟨_, _, vs, _, p⟩ := (show ObjOk X.prog X.w H s.heap a (.dK kvs) from I.hok a _ ea)
    obtain ⟨o, es, ep, h1, h2, _⟩ := p
    exact PySem.W.kia_one PySem.W.kitx_dict I.kIn ⟨o, h1, h2.1⟩ e (fun z => nomatch z) h
  | @dT a kvs ea =>
    cases (show u = Value.ref a from rx)
    obtain ⟨_, _, xs, _, o, es, ep, h1, h2, _⟩ := (show ObjOk X.prog X.w H s.heap a (.dT kvs) from I.hok a _ ea)
    exact PySem.W.kia_one PySem.W.kitx_dict I.kIn ⟨o, h1, h2.1⟩ e (fun z => nomatch z) h
  | @ins a C dx fs ea cl ha hn htk hm =>
    cases (show u = Value.ref a from rx)
    obtain ⟨mA, O, _⟩ := ins_get I.hok ea
    obtain ⟨od, J, _⟩ := O.look
    exact PySem.W.kia_one (PySem.W.kitx_own (cl.get _) cl.hd ha hn htk hm) I.kIn J e (fun z => nomatch z) h
end
end L2
namespace L2
open PySem PySem.Spec PyProof.Rows
structure Room (k : Nat) (A : Around) : Prop where
  hd : A.handled = none
  dp : A.depth + 3 * k + 5 < recursionLimit
  un : A.units + 16 * k + 200 < cLine
theorem Room.mono {j k : Nat} {A : Around} (r : Room k A) (h : j ≤ k) : Room j A := ⟨r.hd, by have := r.dp; omega, by have := r.un; omega⟩
theorem Room.deeper {k : Nat} {A : Around} (r : Room (k + 1) A) (env : Env) : Room k (A.deeper env) :=
  ⟨r.hd, by have := r.dp; show A.depth + 1 + 3 * k + 5 < _; omega, by have := r.un; show A.units + 3 + 16 * k + 200 < _; omega⟩
theorem make_depth {A : Around} {C : Addr} {us : List Value} {kw : List (Str × Value)} : (A.under (.builtin "type.__call__" ⟨.ref C :: us, kw⟩)).depth = A.depth + 1 := by
  first | rfl | simp [Around.under, Code.weight, Code.isCreation, Code.isGuard, Code.isCaller, Code.frames, Code.isFrame, guardIds]
theorem make_units {A : Around} {C : Addr} {us : List Value} {kw : List (Str × Value)} : (A.under (.builtin "type.__call__" ⟨.ref C :: us, kw⟩)).units = A.units + 1 := by
  first | rfl | simp [Around.under, Code.cUnits, Code.frames, Code.isFrame]
theorem Room.make {k : Nat} {A : Around} (r : Room (k + 1) A) (C : Addr) (us : List Value) (kw : List (Str × Value)) : Room k (A.under (.builtin "type.__call__" ⟨.ref C :: us, kw⟩)) :=
  ⟨r.hd, by have := r.dp; rw [make_depth]; omega, by have := r.un; rw [make_units]; omega⟩
theorem Room.depth {k : Nat} {A : Around} (r : Room k A) : A.depth < recursionLimit := by have := r.dp; omega
theorem Room.units {k : Nat} {A : Around} (r : Room k A) : A.units + 64 < cLine := by have := r.un; omega
def tNil : TA := fun _ H Q => Q [] H
def tCons (ta : TE) (tr : TA) : TA := fun σ H Q => ta σ H fun x H1 => tr σ H1 fun xs H2 => Q (x :: xs) H2
section
variable {X : Cx} {e : Expr} {es : List Expr} {te : TE} {t : TA} {pos : Pos}
theorem pa_nil : PA X [] tNil := fun _ _ _ _ H Q I h => Calls.spliced_nil ⟨[], H, I, .nil, h⟩
theorem pa_cons (ha : PE X e te) (hr : PA X es t) (hs : starEach (e :: es) X.env = (false, eval e X.env) :: starEach es X.env := by rfl) : PA X (e :: es) (tCons te t) := by
  intro pos pins s σ H Q I h
  rw [hs]
  show wpAny _ _ (spliced ((false, eval e X.env) :: backTo pos (starEach es X.env))) _ _ s
  refine Calls.spliced_cons (thn (ha pins s σ H _ I h) fun u s1 ⟨x, H1, I1, r1, q1⟩ => ?_)
  exact thn (hr pos pins s1 σ H1 _ I1 q1) fun us s2 ⟨xs, H2, I2, r2, q2⟩ => ⟨x :: xs, H2, I2, .cons r1 r2, q2⟩
def tTup (t : TA) : TE := fun σ H Q => t σ H fun xs H1 => xs.length ≤ sizeLine ∧ ∀ p, H1 p = none → Q (.ref p) (upd H1 p (.tup xs))
def tLst (t : TA) : TE := fun σ H Q => t σ H fun xs H1 => xs.length ≤ sizeLine ∧ ∀ p, H1 p = none → Q (.ref p) (upd H1 p (.lst xs))
theorem pe_tup {x1} (h : PA X es t) : PE X (.Tuple es x1 pos) (tTup t) := by
  intro pins s σ H Q I hq
  refine wpAny_Tuple_spliced (thn (h pos pins s σ H _ I hq) fun us s1 ⟨xs, H1, I1, r, z, q⟩ => ⟨by rw [← r.length]; exact z, ?_⟩)
  have hf : H1 s1.heap.objs.size = none := I1.hok.fresh (Nat.le_refl _)
  refine ⟨.ref s1.heap.objs.size, upd H1 s1.heap.objs.size (.tup xs), I1.laid (t' := s1.toks) (fun b u e => Heap.get?_push_of_some _ e) (Nat.le_refl _) ?_, rfl, q _ hf⟩
  exact ⟨z, us, r, ⟨_, Heap.get?_push_size _ rfl, rfl, _, rfl⟩⟩
theorem pe_lst (h : PA X es t) : PE X (.List es pos) (tLst t) := by
  intro pins s σ H Q I hq
  refine wpAny_List_spliced (thn (h pos pins s σ H _ I hq) fun us s1 ⟨xs, H1, I1, r, z, q⟩ => ⟨by rw [← r.length]; exact z, ?_⟩)
  have hf : H1 s1.heap.objs.size = none := I1.hok.fresh (Nat.le_refl _)
  refine ⟨.ref s1.heap.objs.size, upd H1 s1.heap.objs.size (.lst xs), I1.laid (t' := s1.toks) (fun b u e => Heap.get?_push_of_some _ e) (Nat.le_refl _) ?_, rfl, q _ hf⟩
  exact ⟨z, us, 0, r, Heap.get?_push_size _ rfl⟩
end
abbrev Sp := List V → Hp → VK → XK → Prop
abbrev CXT := List Env → Hp → Shared → XK → Value → Shared → Prop
structure Env0 (P : Program) (w : World) (K : PySem.W.Frag) (mg : Str → Option Value) (base : Heap) (A : Around) (outer : List Env) (s : Shared) (H : Hp) : Prop where
  frames : A.frames = some outer
  mod : Mod K mg base
  bs : ∀ b o, base.get? b = some o → s.heap.get? b = some o ∧ H b = none
  bsz : base.objs.size ≤ s.heap.objs.size
  funs : s.heap.FunFrames base outer
  frf : ∀ b ∈ frs outer, H b = none
  hok : HOk P w H s.heap
  bare : AllBare s.gens
def CE (outer : List Env) (P : Program) (w : World) (H : Hp) (s : Shared) (Q : VK) (u : Value) (s' : Shared) : Prop :=
  ∃ v H', s'.os = s.os ∧ AllBare s'.gens ∧ Un (frs outer) [] H H' s.heap s'.heap ∧ HOk P w H' s'.heap ∧ RelV v u ∧ Q v H'
def CR (CX : CXT) (outer : List Env) (P : Program) (w : World) (H : Hp) (s : Shared) (Q : VK) (E : XK) (r : Result) (s' : Shared) : Prop :=
  match r with
  | .ok (.ret u) => CE outer P w H s Q u s'
  | .ok _ => False
  | .error e => CX outer H s E e s'
structure FnOk (P : Program) (w : World) (K : PySem.W.Frag) (mg : Str → Option Value) (base : Heap) (CX : CXT) (k : Nat) (f : Addr) (fd : FuncData) (ps : List Str) (sp : Sp) : Prop where
  len : ∀ vs H Q E, sp vs H Q E → vs.length = ps.length
  run : ∀ (A : Around) (outer : List Env) (s : Shared) (H : Hp) (args : Args) (us : List Value) (vs : List V) (Q : VK) (E : XK), Room k A → Env0 P w K mg base A outer s H → BindsTo s fd args (ps.zip us) → Vals vs us → sp vs H Q E →
    codeAny (model P w) A (.call (.ref f) args) (CR CX outer P w H s Q E) s
theorem Env0.make {P : Program} {w : World} {K : PySem.W.Frag} {mg : Str → Option Value} {base : Heap} {A : Around} {outer : List Env} {s : Shared} {H : Hp} (e : Env0 P w K mg base A outer s H) (C : Addr) (us : List Value) (kw : List (Str × Value)) :
    Env0 P w K mg base (A.under (.builtin "type.__call__" ⟨.ref C :: us, kw⟩)) outer s H := ⟨by first | exact e.frames | (simpa [Around.under, Code.envs, Code.isFrame, pushEnvs] using e.frames), e.mod, e.bs, e.bsz, e.funs, e.frf, e.hok, e.bare⟩
section
variable {X : Cx} {pins : List (Addr × Obj)} {σ : St} {H : Hp} {s s' : Shared}
theorem Inv.env0 (I : Inv X pins σ H s) : Env0 X.prog X.w X.K X.mg X.base X.A X.stack s H :=
  ⟨I.ok.frames, I.ok.mod, I.bs, Nat.le_trans I.ok.bsz I.sz, I.stack, I.stkFree, I.hok, I.bare⟩
theorem Inv.after {Q : VK} {u : Value} (I : Inv X pins σ H s) (h : CE X.stack X.prog X.w H s Q u s') : EP X pins σ Q u s' := by
  obtain ⟨v, H', os, bare, un, hok, r, q⟩ := h
  obtain ⟨hh, g, d, t, os'⟩ := s'
  obtain rfl : os' = s.os := os
  exact ⟨v, H', I.call (h' := hh) (g' := g) (d' := d) (t' := t) (ch := []) un hok bare (fun b z => absurd z (by simp)), r, q⟩
end
def tCall (sp : Sp) (dvs : List V) (E : XK) (t : TA) : TE := fun σ H Q => t σ H fun vs H1 => sp (vs ++ dvs) H1 Q E
def tMeth (C : Addr) (m : Str) (sp : Sp) (dvs : List V) (E : XK) (ta : TE) (t : TA) : TE := fun σ H Q => ta σ H fun x H1 => ∃ a dx fs, x = .ref a ∧ H1 a = some (.ins C dx fs) ∧ fs.lookup m = none ∧
  t σ H1 fun vs H2 => sp (x :: (vs ++ dvs)) H2 Q E
def tMake (C : Addr) (sp : Sp) (dvs : List V) (E : XK) (t : TA) : TE := fun σ H Q => t σ H fun vs H1 => ∀ x dx, H1 x = none → H1 dx = none → dx ≠ x →
  sp (.ref x :: (vs ++ dvs)) (upd (upd H1 dx (.own x)) x (.ins C dx [])) (fun v H2 => v = .non ∧ Q (.ref x) H2) E
def Binds (K : PySem.W.Frag) (fd : FuncData) (ps : List Str) (ds : List Value) : Prop :=
  ∀ (s : Shared) (us : List Value), K.In s.heap → (us ++ ds).length = ps.length → BindsTo s fd ⟨us, []⟩ (ps.zip (us ++ ds))
theorem Binds.all {K : PySem.W.Frag} {fd : FuncData} {ps : List Str} (h : ∀ us : List Value, us.length = ps.length → bindArgs fd ⟨us, []⟩ = pure (ps.zip us)) : Binds K fd ps [] := fun s us _ hl => by
  rw [List.append_nil] at hl ⊢
  exact .of_eq (h us hl)
def Passes (CX : CXT) (X : Cx) (E : XK) : Prop := ∀ (pins : List (Addr × Obj)) (σ : St) (H : Hp) (s : Shared) (e : Value) (s' : Shared), Inv X pins σ H s → CX X.stack H s E e s' → X.xe e s'
section
variable {X : Cx} {CX : CXT} {k : Nat} {f C : Addr} {fd : FuncData} {ps : List Str} {sp : Sp} {dvs : List V} {ds : List Value} {E : XK} {x m : Str} {p pos apos : Pos} {e o : Expr} {es : List Expr} {ta : TE} {t : TA}
theorem run_fn {pins : List (Addr × Obj)} {σ : St} {H : Hp} {s : Shared} {Q : VK} {us : List Value} {vs : List V} (F : FnOk X.prog X.w X.K X.mg X.base CX k f fd ps sp) (hr : Room k X.A) (hb : Binds X.K fd ps ds) (hd : Vals dvs ds) (hx : Passes CX X E)
    (I : Inv X pins σ H s) (r : Vals vs us) (h : sp (vs ++ dvs) H Q E) : wpAny (model X.prog X.w) X.A (call (.ref f) us) (EP X pins σ Q) X.xe s := by
  have r2 : Vals (vs ++ dvs) (us ++ ds) := r.append hd
  have hl : (us ++ ds).length = ps.length := by rw [← r2.length]; exact F.len _ _ _ _ h
  refine wpAny_call (codeAny_mono (F.run X.A X.stack s H ⟨us, []⟩ (us ++ ds) (vs ++ dvs) Q E hr I.env0 (hb s us I.kIn hl) r2 h) fun r s' hq => ?_)
  cases r with
  | error e => exact hx pins σ H s e s' I hq
  | ok fl =>
    cases fl with
    | ret u => exact I.after hq
    | next => exact False.elim hq
    | brk => exact False.elim hq
    | cont => exact False.elim hq
theorem pe_call (F : FnOk X.prog X.w X.K X.mg X.base CX k f fd ps sp) (hr : Room k X.A) (hg : Gl X x) (hm : X.mg x = some (.ref f)) (hk : PySem.W.keepIn X.K (.ref f) = true) (hb : Binds X.K fd ps ds) (hd : Vals dvs ds) (hx : Passes CX X E)
    (ha : PA X (e :: es) t) (hdb : (x == ("__debug__" : Str)) = false := by decide) (he : starEach (e :: es) X.env = (false, eval e X.env) :: starEach es X.env := by rfl) (hpl : (backTo pos (starEach es X.env)).any (·.1) = false := by rfl) :
    PE X (.Call (.Name x p) (e :: es) [] pos) (tCall sp dvs E t) := by
  intro pins s σ H Q I h
  refine wpAny_Call_Name_kw (ld_glob I hg hm ?_ hdb)
  refine PySem.W.callWith_K (h₀ := X.base) I.ok.mod.kin hk (thn (ha pos pins s σ H _ I h) fun us s1 ⟨vs, H1, I1, r, q⟩ => ⟨I1.kIn, ?_⟩) he hpl
  exact run_fn F hr hb hd hx I1 r q
theorem pe_meth0 {pl : Sem Bool} (he : PE X o ta) (c : Cls X.K C) (hm : Meth X.K C m f) (F : FnOk X.prog X.w X.K X.mg X.base CX k f fd ps sp) (hr : Room k X.A) (hb : Binds X.K fd ps ds) (hd : Vals dvs ds) (hx : Passes CX X E)
    (ht : eval (.Call (.Attribute o m apos) [] [] pos) X.env = (do
      let ov ← eval o X.env
      standAt apos.atName
      let (f, first) ← holding [ov] (getMethod ov m pl)
      callWith pos f first (backTo pos (starEach [] X.env)) (backToKw pos (keywordEach [] X.env))) := by rfl) :
    PE X (.Call (.Attribute o m apos) [] [] pos) (tMeth C m sp dvs E ta tNil) := by
  intro pins s σ H Q I h
  refine PySem.W.methodCall_KW (pl := pl) (thn (he pins s σ H _ I h) fun u s1 ⟨x, H1, I1, rx, a, dx, fs, ex, ea, l, q⟩ => ?_) ht
  subst ex
  obtain rfl : u = Value.ref a := rx
  refine getmeth_ok I1 ea c hm l ?_
  exact PySem.W.callWith_K0 (first := [.ref a]) I1.kIn hm.kp (run_fn (us := [.ref a]) (vs := [.ref a]) F hr hb hd hx I1 (.cons rfl .nil) q)
structure Mk (K : PySem.W.Frag) (C f : Addr) : Prop where
  makes : PySem.W.makesIn K C = true
  init : PySem.W.findIn K (.ref C) "__init__" = some (some (.ref f))
  fn : PySem.W.isFn K (.ref f) = true
  kp : PySem.W.keepIn K (.ref C) = true
theorem run_make {pins : List (Addr × Obj)} {σ : St} {H : Hp} {s : Shared} {Q : VK} {us : List Value} {vs : List V} (M : Mk X.K C f) (F : FnOk X.prog X.w X.K X.mg X.base CX k f fd ps sp) (hr : Room (k + 1) X.A) (hb : Binds X.K fd ps ds) (hd : Vals dvs ds)
    (hx : Passes CX X E) (I : Inv X pins σ H s) (r : Vals vs us)
    (h : ∀ x dx, H x = none → H dx = none → dx ≠ x → sp (.ref x :: (vs ++ dvs)) (upd (upd H dx (.own x)) x (.ins C dx [])) (fun v H2 => v = .non ∧ Q (.ref x) H2) E) :
    wpAny (model X.prog X.w) X.A (call (.ref C) us) (EP X pins σ Q) X.xe s := by
  have hq := h (s.heap.objs.size + 1) s.heap.objs.size (I.hok.fresh (Nat.le_succ _)) (I.hok.fresh (Nat.le_refl _)) (Nat.ne_of_lt (Nat.lt_succ_self _))
  have I2 := Inv.made (C := C) I
  have r2 : Vals (V.ref (s.heap.objs.size + 1) :: (vs ++ dvs)) (Value.ref (s.heap.objs.size + 1) :: (us ++ ds)) := .cons rfl (r.append hd)
  have hl : (Value.ref (s.heap.objs.size + 1) :: us ++ ds).length = ps.length := by
    have e := r2.length
    rw [F.len _ _ _ _ hq] at e
    exact e.symm
  refine wpAny_call (make_map (f := f) I.kIn M.makes M.init (beq_iff_eq.mp M.fn) (codeAny_mono (F.run _ X.stack _ _ ⟨Value.ref (s.heap.objs.size + 1) :: us, []⟩ (Value.ref (s.heap.objs.size + 1) :: (us ++ ds)) _ _ E (hr.make C us [])
    (I2.env0.make C us []) (hb _ (Value.ref (s.heap.objs.size + 1) :: us) I2.kIn hl) r2 hq) fun r s' hq' => ?_))
  cases r with
  | error e => exact hx pins σ _ _ e s' I2 hq'
  | ok fl =>
    cases fl with
    | ret u =>
      obtain ⟨v, H', I3, rv, ev, q3⟩ := I2.after hq'
      subst ev
      exact ⟨rv, ⟨V.ref (s.heap.objs.size + 1), H', I3, rfl, q3⟩⟩
    | next => exact False.elim hq'
    | brk => exact False.elim hq'
    | cont => exact False.elim hq'
theorem pe_make (M : Mk X.K C f) (F : FnOk X.prog X.w X.K X.mg X.base CX k f fd ps sp) (hr : Room (k + 1) X.A) (hg : Gl X x) (hm : X.mg x = some (.ref C)) (hb : Binds X.K fd ps ds) (hd : Vals dvs ds) (hx : Passes CX X E)
    (ha : PA X (e :: es) t) (hdb : (x == ("__debug__" : Str)) = false := by decide) (he : starEach (e :: es) X.env = (false, eval e X.env) :: starEach es X.env := by rfl) (hpl : (backTo pos (starEach es X.env)).any (·.1) = false := by rfl) :
    PE X (.Call (.Name x p) (e :: es) [] pos) (tMake C sp dvs E t) := by
  intro pins s σ H Q I h
  refine wpAny_Call_Name_kw (ld_glob I hg hm ?_ hdb)
  refine PySem.W.callWith_K (h₀ := X.base) I.ok.mod.kin M.kp (thn (ha pos pins s σ H _ I h) fun us s1 ⟨vs, H1, I1, r, q⟩ => ⟨I1.kIn, ?_⟩) he hpl
  exact run_make M F hr hb hd hx I1 r q
end
section
variable {X : Cx} {CX : CXT} {k : Nat} {f C : Addr} {fd : FuncData} {ps ks : List Str} {sp : Sp} {E : XK} {x m : Str} {p pos apos kpos : Pos} {e o : Expr} {es : List Expr} {kws : List Keyword} {te ta : TE} {t tk : TA} {nm : Option Str}
variable {g : List Value → List Value → List Value} {gV : List V → List V → List V}
end
structure FnScope (N P : List Str) (sc : Scope) : Prop where
  kind : sc.kind = .function
  co : sc.isCoroutine = false
  gen : sc.isGenerator = false
  nd : N.Nodup
  pre : N.take P.length = P
  par : ∀ x ∈ P, sc.names.lookup x = some .local ∨ sc.names.lookup x = some .cell
  nofree : ∀ y ∈ sc.names, y.2 ≠ .free
theorem bindL_out {kindOf : Str → Option NameKind} {x : Str} : ∀ {binds : List (Str × Value)} {m : Str → Option Value}, (∀ v, (x, v) ∉ binds) → bindL kindOf binds m x = m x
  | [], _, _ => rfl
  | (n, v) :: r, m, h => by
    unfold bindL
    rw [bindL_out fun w hw => h w (List.mem_cons_of_mem _ hw)]
    split
    · have : x ≠ n := by rintro rfl; exact h v List.mem_cons_self
      simp [this]
    · rfl
theorem bindC_out {kindOf : Str → Option NameKind} {x : Str} : ∀ {binds : List (Str × Value)} {m : Str → Option Value}, (∀ v, (x, v) ∉ binds) → bindC kindOf binds m x = m x
  | [], _, _ => rfl
  | (n, v) :: r, m, h => by
    unfold bindC
    rw [bindC_out fun w hw => h w (List.mem_cons_of_mem _ hw)]
    split
    · rfl
    · have : x ≠ n := by rintro rfl; exact h v List.mem_cons_self
      simp [this]
theorem bindL_get {kindOf : Str → Option NameKind} {x : Str} {v : Value} : ∀ {P : List Str} {vs : List Value} {i : Nat} {m : Str → Option Value}, P.Nodup → P[i]? = some x → vs[i]? = some v → kindOf x = some .local →
    bindL kindOf (P.zip vs) m x = some v
  | [], _, _, _, _, h, _, _ => by simp at h
  | _ :: _, [], _, _, _, _, h, _ => by simp at h
  | p :: P, w :: vs, 0, m, nd, h1, h2, hk => by
    simp at h1 h2; subst h1; subst h2
    show bindL kindOf ((p, w) :: P.zip vs) m p = _
    unfold bindL
    rw [bindL_out fun v hv => (List.nodup_cons.mp nd).1 (List.of_mem_zip hv).1, if_pos hk]
    simp
  | p :: P, w :: vs, i + 1, m, nd, h1, h2, hk => by
    show bindL kindOf ((p, w) :: P.zip vs) m x = _
    unfold bindL
    exact bindL_get (i := i) (List.nodup_cons.mp nd).2 (by simpa using h1) (by simpa using h2) hk
theorem bindC_get {kindOf : Str → Option NameKind} {x : Str} {v : Value} : ∀ {P : List Str} {vs : List Value} {i : Nat} {m : Str → Option Value}, P.Nodup → P[i]? = some x → vs[i]? = some v → kindOf x ≠ some .local →
    bindC kindOf (P.zip vs) m x = some v
  | [], _, _, _, _, h, _, _ => by simp at h
  | _ :: _, [], _, _, _, _, h, _ => by simp at h
  | p :: P, w :: vs, 0, m, nd, h1, h2, hk => by
    simp at h1 h2; subst h1; subst h2
    show bindC kindOf ((p, w) :: P.zip vs) m p = _
    unfold bindC
    rw [bindC_out fun v hv => (List.nodup_cons.mp nd).1 (List.of_mem_zip hv).1, if_neg hk]
    simp
  | p :: P, w :: vs, i + 1, m, nd, h1, h2, hk => by
    show bindC kindOf ((p, w) :: P.zip vs) m x = _
    unfold bindC
    exact bindC_get (i := i) (List.nodup_cons.mp nd).2 (by simpa using h1) (by simpa using h2) hk
def start (N : List Str) (vs : List V) : St := vs.map some ++ List.replicate (N.length - vs.length) none
def cxOf (CX : CXT) (P : Program) (w : World) (K : PySem.W.Frag) (mg : Str → Option Value) (base : Heap) (N : List Str) (qual : Str) (scope : Scope) (f : Addr) (cd : Value) (A : Around) (outer : List Env) (s : Shared) (H : Hp) (E : XK) : Cx where
  prog := P
  w := w
  K := K
  mg := mg
  base := base
  A := A.deeper (envOfC qual scope s.heap.objs.size f cd)
  N := N
  s₀ := s
  H₀ := H
  env := envOfC qual scope s.heap.objs.size f cd
  outer := outer
  stack := envOfC qual scope s.heap.objs.size f cd :: outer
  ex := []
  calm := true
  fn := fun _ => true
  pn := []
  xe := fun e s' => wpAny (model P w) (A.deeper (envOfC qual scope s.heap.objs.size f cd)) (leaving (envOfC qual scope s.heap.objs.size f cd) e) (fun _ s'' => CX outer H s E e s'') (fun e' s'' => CX outer H s E e' s'') s'
theorem cell_has {sc : Scope} {n : Nat} {x : Str} (h : sc.names.lookup x = some .cell) : ∃ c, (cellsFrom n sc.names []).lookup x = some c := by
  have q := PySem.W.cellsFrom_some sc.names n [] (.inl h)
  exact Option.isSome_iff_exists.mp q
theorem inv_start {CX : CXT} {P : Program} {w : World} {K : PySem.W.Frag} {mg : Str → Option Value} {base : Heap} {N ps : List Str} {qual : Str} {scope : Scope} {f : Addr} {cd : Value} {A : Around} {outer : List Env} {s s1 : Shared} {H : Hp} {E : XK} {us : List Value} {vs : List V}
    (S : FnScope N ps scope) (hd : A.handled = none) (e0 : Env0 P w K mg base A outer s H) (hl : vs.length = ps.length) (r : Vals vs us)
    (x : InCallC s s.heap.objs.size (bindL (envOfC qual scope s.heap.objs.size f cd).kindOf (ps.zip us) fun _ => none) (cellsFrom (s.heap.objs.size + 1) scope.names []) (bindC (envOfC qual scope s.heap.objs.size f cd).kindOf (ps.zip us) fun _ => none) s1) :
    Inv (cxOf CX P w K mg base N qual scope f cd A outer s H E) [] (start N vs) H s1 := by
  have hpl : ps.length ≤ N.length := by have := congrArg List.length S.pre; rw [List.length_take] at this; omega
  obtain ⟨h1, tk, rfl, hk⟩ := x.done
  have noA : ∀ b : Addr, b ∉ (cxOf CX P w K mg base N qual scope f cd A outer s H E).ex := fun b z => absurd (show b ∈ ([] : List Addr) from z) (by simp)
  refine ⟨⟨e0.mod, S.kind, rfl, rfl, Nat.le_refl _, fun y z c h1 h2 => ?_, fun y hy => ?_, fun y c _ h => ?_, fun _ => hd, Around.frames_deeper e0.frames, .inr ⟨rfl, rfl⟩, fun b z => absurd z (noA b), e0.bs, e0.bsz, fun b _ _ => noA b, fun b z => absurd z (noA b), e0.funs, e0.frf⟩,
    rfl, e0.bare, Un.kept hk, ⟨_, x.toInCall.ns, fun i y v h1 h2 h3 => ?_⟩, fun y c h => ⟨_, x.cell y c h⟩, e0.hok.fresh (Nat.le_refl _), fun y c h => ?_, fun p hp => absurd (show p ∈ ([] : List (Addr × Obj)) from hp) (by simp), e0.hok.kept hk, ?_⟩
  · exact name_of_addr x.apart (PySem.mem_of_lookup h1) (PySem.mem_of_lookup h2)
  · have hy : scope.names.lookup y = some .cell ∨ scope.names.lookup y = some .free := hy
    rcases hy with hy | hy
    · exact cell_has hy
    · exact absurd rfl (S.nofree _ (PySem.mem_of_lookup hy))
  · exact Nat.le_of_lt (x.above y c (PySem.mem_of_lookup h))
  · have hi : i < vs.length := by
      unfold start at h2
      by_cases hi : i < vs.length
      · exact hi
      · rw [List.getElem?_append_right (by simpa using hi)] at h2
        rw [List.getElem?_replicate] at h2
        split at h2 <;> cases h2
    have ha : vs[i]? = some v := by
      unfold start at h2
      rw [List.getElem?_append_left (by simpa using hi), List.getElem?_map] at h2
      cases e : vs[i]? with
      | none => rw [e] at h2; cases h2
      | some a => rw [e] at h2; cases h2; rfl
    obtain ⟨u, hu, rv⟩ := r.get ha
    have hp : ps[i]? = some y := by
      rw [← S.pre, List.getElem?_take_of_lt (by omega)]; exact h1
    have ndP : ps.Nodup := by rw [← S.pre]; exact S.nd.sublist (List.take_sublist _ _)
    refine ⟨u, rv, ?_⟩
    rcases S.par y (List.mem_of_getElem? hp) with k | k
    · exact .inl ⟨k, bindL_get ndP hp hu k⟩
    · obtain ⟨c, e⟩ := cell_has (n := s.heap.objs.size + 1) k
      refine .inr ⟨.inl k, c, e, ?_⟩
      have q := x.cell y c e
      rw [bindC_get ndP hp hu (by show scope.names.lookup y ≠ _; rw [k]; decide)] at q
      exact q
  · exact e0.hok.fresh (Nat.le_of_lt (x.above y c (PySem.mem_of_lookup h)))
  · unfold start
    show _ = N.length
    rw [List.length_append, List.length_map, List.length_replicate]
    omega
theorem fn_of {CX : CXT} {P : Program} {w : World} {K : PySem.W.Frag} {mg : Str → Option Value} {base : Heap} {k : Nat} {f : Addr} {name qual : Str} {params : Arguments} {body : List Stmt} {scope : Scope} {dV kV doc pm cdv ct oc : Value} {an od : Option Addr}
    {osl : Array (Option Value)} {N ps : List Str} {sp : Sp} (lk : K.lookup f = some ⟨oc, od, .func (PySem.W.fnOf name qual params body scope dV kV doc pm an cdv ct), osl⟩) (hcd : PySem.W.codeIn K cdv qual = true) (S : FnScope N ps scope)
    (len : ∀ vs H Q E, sp vs H Q E → vs.length = ps.length)
    (hbody : ∀ (A : Around) (outer : List Env) (s : Shared) (H : Hp) (vs : List V) (Q : VK) (E : XK), Room k (A.deeper (envOfC qual scope s.heap.objs.size f cdv)) → sp vs H Q E →
      ∃ t, PSs (cxOf CX P w K mg base N qual scope f cdv A outer s H E) body t ∧ t { nx := fun _ H' => Q .non H', rt := Q } (start N vs) H) :
    FnOk P w K mg base CX (k + 1) f (PySem.W.fnOf name qual params body scope dV kV doc pm an cdv ct) ps sp := by
  refine ⟨len, fun A outer s H args us vs Q E hr e0 hb r hsp => ?_⟩
  have hl := len _ _ _ _ hsp
  have KX : K.In s.heap := e0.mod.kin.keeps fun b o e => (e0.bs b o e).1
  have lim : s.heap.NoLimit := e0.mod.nolimit.keeps fun b o e => (e0.bs b o e).1
  have hkind : ∀ y ∈ ps.zip us, scope.names.lookup y.1 = some .local ∨ (scope.names.lookup y.1 = some .cell ∧ ((cellsFrom (s.heap.objs.size + 1) scope.names []).lookup y.1).isSome = true) := fun ⟨n, v⟩ hy => by
    rcases S.par n (List.of_mem_zip hy).1 with q | q
    · exact .inl q
    · exact .inr ⟨q, PySem.W.cellsFrom_some _ _ _ (.inl q)⟩
  refine codeAny_call_function hr.depth (KX _ _ lk) rfl S.co S.gen rfl (PySem.W.codeRec_of KX hcd) (hb _ _ _ _ ?_)
  refine wpAny_newFunctionEnv_cells S.kind hkind fun env he s1 x => ?_
  subst he
  refine ⟨lim.keeps x.toInCall.keep, codeAny_func ?_⟩
  obtain ⟨t, ht, hq⟩ := hbody A outer s H vs Q E (hr.deeper _) hsp
  have I : Inv (cxOf CX P w K mg base N qual scope f cdv A outer s H E) [] (start N vs) H s1 := inv_start S hr.hd e0 hl r x
  refine wpAny_mono (ht [] s1 (start N vs) H _ I hq) (fun fl s' hs => ?_) fun e s' hs => hs
  have fin : ∀ {σ' : St} {H' : Hp} {v : V} {u : Value}, Inv (cxOf CX P w K mg base N qual scope f cdv A outer s H E) [] σ' H' s' → RelV v u → Q v H' → CE outer P w H s Q u s' :=
    fun {σ' H' v u} J rv q => ⟨v, H', J.os, J.bare, J.base, J.hok, rv, q⟩
  cases fl with
  | ret u =>
    obtain ⟨v, σ', H', J, rv, q⟩ := hs
    exact fin J rv q
  | next =>
    obtain ⟨σ', H', J, q⟩ := hs
    exact fin (v := V.non) (u := Value.none) J rfl q
  | brk =>
    obtain ⟨_, _, _, q⟩ := hs
    exact False.elim q
  | cont =>
    obtain ⟨_, _, _, q⟩ := hs
    exact False.elim q
end L2
namespace L2
open PySem PySem.Spec PyProof.Rows
section
variable {X : Cx} {x : Str} {p pos : Pos} {e : Expr} {es : List Expr} {t : TA} {id T : String} {r : List V → Hp → VK → Prop}
def tCB (r : List V → Hp → VK → Prop) (t : TA) : TE := fun σ H Q => t σ H fun vs H1 => r vs H1 Q
theorem pe_callB (hc : CallR X (.builtin id) r) (hg : Gl X x) (hm : X.mg x = none) (hv : bootBuiltins x = some (.builtin id)) (ha : PA X (e :: es) t) (hn : x ≠ "__name__" := by decide) (hdb : (x == ("__debug__" : Str)) = false := by decide)
    (he : starEach (e :: es) X.env = (false, eval e X.env) :: starEach es X.env := by rfl) (hpl : (backTo pos (starEach es X.env)).any (·.1) = false := by rfl) : PE X (.Call (.Name x p) (e :: es) [] pos) (tCB r t) := by
  intro pins s σ H Q I h
  refine wpAny_Call_Name_kw (ld_blt I hg hm hv ?_ hn hdb)
  exact PyProof.Rows.callWith_builtin1 (thn (ha pos pins s σ H _ I h) fun us s1 ⟨vs, H1, I1, r1, q1⟩ => hc pins s1 σ H1 vs us Q I1 r1 q1) he hpl
theorem pe_callTy (hc : CallR X (.type T) r) (hg : Gl X x) (hm : X.mg x = none) (hv : bootBuiltins x = some (.type T)) (ha : PA X (e :: es) t) (hn : x ≠ "__name__" := by decide) (hdb : (x == ("__debug__" : Str)) = false := by decide)
    (he : starEach (e :: es) X.env = (false, eval e X.env) :: starEach es X.env := by rfl) (hpl : (backTo pos (starEach es X.env)).any (·.1) = false := by rfl) : PE X (.Call (.Name x p) (e :: es) [] pos) (tCB r t) := by
  intro pins s σ H Q I h
  refine wpAny_Call_Name_kw (ld_blt I hg hm hv ?_ hn hdb)
  exact PyProof.Rows.callWith_type1 (thn (ha pos pins s σ H _ I h) fun us s1 ⟨vs, H1, I1, r1, q1⟩ => hc pins s1 σ H1 vs us Q I1 r1 q1) he hpl
end
end L2
namespace HT
open PySem PyProof.Rows
section
open PySem.SeqAt
open PySem.AutoSeq1 (wpAny_loadPart')
open PySem.MeetsSeq PySem.MeetsSeq2 PySem.MeetsSeq3
end
section
variable {prog : Program} {w : World} {A : Around} {E : Value → Shared → Prop} {s : Shared}
theorem cat_tup {t b : Addr} {vs ws : List Value} {Q : Value → Shared → Prop} (ht : IsTup s.heap t vs.toArray) (hb : IsTup s.heap b ws.toArray) (hv : vs ≠ [])
    (h1 : ws = [] → Q (.ref t) s) (h2 : ws ≠ [] → Q (.ref s.heap.objs.size) { s with heap := s.heap.push { cls := .type "tuple", data := .seq (vs ++ ws).toArray } })
    (hsz : vs.length + ws.length ≤ sizeLine) : wpAny (model prog w) A (binaryOp .Add (.ref t) (.ref b)) Q E s := by
  obtain ⟨⟨cls, dd, data, sl⟩, ho, hc, n, hd⟩ := id ht
  obtain ⟨⟨cls2, dd2, data2, sl2⟩, ho2, hc2, n2, hd2⟩ := id hb
  simp only at hc hd hc2 hd2
  subst hc hd hc2 hd2
  have e : vs.toArray ++ ws.toArray = (vs ++ ws).toArray := by simp
  by_cases hw : ws = []
  · exact concat_meets ⟨_, ho, rfl⟩ ⟨_, ho2, rfl⟩ noFill_tuple_add seq_tuple_add PySem.F.slot_tuple_add PySem.F.entry_tuple_add (PySem.F.args_tuple_add_2 _ _)
      (tuple_addW1 t b vs.toArray ws.toArray n n2 dd dd2 sl sl2 (by simpa using hv) (by simp [hw])) ⟨ho, ho2, h1 hw⟩
  · refine concat_meets ⟨_, ho, rfl⟩ ⟨_, ho2, rfl⟩ noFill_tuple_add seq_tuple_add PySem.F.slot_tuple_add PySem.F.entry_tuple_add (PySem.F.args_tuple_add_2 _ _)
      (tuple_addW2 t b vs.toArray ws.toArray n n2 dd dd2 sl sl2 (by simpa using hv) (by simpa using hw) (by rw [List.size_toArray, List.size_toArray]; exact hsz)) ⟨ho, ho2, ?_⟩
    rw [e]
    exact h2 hw
def sIx (n d : Nat) : Option Int → Nat
  | none => d
  | some v => if v < 0 then (v + (n : Int)).toNat else min v.toNat n
theorem sIx_none (n d : Nat) : sIx n d none = d := rfl
theorem sIx_nat (n d k : Nat) : sIx n d (some (k : Int)) = min k n := by
  show (if (k : Int) < 0 then ((k : Int) + (n : Int)).toNat else min (k : Int).toNat n) = min k n
  rw [if_neg (by omega), Int.toNat_natCast]
theorem sIx_le (n d : Nat) (hd : d ≤ n) (o : Option Int) : sIx n d o ≤ n := by
  cases o with
  | none => exact hd
  | some v =>
    show (if v < 0 then (v + (n : Int)).toNat else min v.toNat n) ≤ n
    by_cases hv : v < 0
    · rw [if_pos hv]; omega
    · rw [if_neg hv]; exact Nat.min_le_right _ _
theorem clip_eq (v : Int) (n d : Nat) : (if v < 0 then max (v + (n : Int)) 0 else min v (n : Int)) = ((sIx n d (some v) : Nat) : Int) := by
  show (if v < 0 then max (v + (n : Int)) 0 else min v (n : Int)) = (((if v < 0 then (v + (n : Int)).toNat else min v.toNat n) : Nat) : Int)
  by_cases hv : v < 0
  · simp only [if_pos hv]; omega
  · simp only [if_neg hv]; omega
theorem adjust_gen (lo hi : Option Int) (n : Nat) : Builtin.Slice.sliceAdjust lo hi 1 (n : Int) = (((sIx n 0 lo : Nat) : Int), ((sIx n n hi : Nat) : Int)) := by
  have h1 : ¬ ((1 : Int) < 0) := by omega
  unfold Builtin.Slice.sliceAdjust
  simp only [h1, if_false]
  refine Prod.ext ?_ ?_
  · cases lo with
    | none => rfl
    | some v => exact clip_eq v n 0
  · cases hi with
    | none => rfl
    | some v => exact clip_eq v n n
theorem places_gen (i j : Nat) : Builtin.Slice.slicePlaces (i : Int) (j : Int) 1 = j - i := by
  unfold Builtin.Slice.slicePlaces
  have h1 : (1 : Int) > 0 := by omega
  simp only [h1, if_true, Int.ediv_one]
  split <;> omega
theorem slicePart_ {v : Value} {o : Option Int} {Q : Option Int → Shared → Prop} (p : IsPart v o) (h : Q o s) : wpAny (model prog w) A (Builtin.Slice.slicePartIndex v) Q E s := by
  cases p with
  | none => exact slicePart_none h
  | int i t => exact slicePart_int h
theorem sliceApplied_gen {sl : Addr} {vl vu : Value} {lo hi : Option Int} {n : Nat} {Q : Int × Int × Nat → Shared → Prop} (hs : s.heap.IsSliceOf sl vl vu .none) (pl : IsPart vl lo) (pu : IsPart vu hi)
    (h : Q (((sIx n 0 lo : Nat) : Int), 1, sIx n n hi - sIx n 0 lo) s) : wpAny (model prog w) A (Builtin.Slice.sliceApplied (.ref sl) (pure (n : Int))) Q E s := by
  obtain ⟨os, hos, hcs, hds⟩ := id hs
  unfold Builtin.Slice.sliceApplied Builtin.Slice.sliceFields
  refine wpAny_bind (wpAny_bind (wpAny_field hos hds (x := vl) rfl (wpAny_bind (wpAny_field hos hds (x := vu) rfl (wpAny_bind (wpAny_field hos hds (x := .none) rfl (wpAny_pure ?_)))))))
  refine wpAny_bind (slicePart_none ?_)
  show wpAny _ _ (if ((1 : Int) == 0) = true then _ else _) _ _ s
  rw [if_neg (by decide)]
  refine wpAny_bind (slicePart_ pl (wpAny_bind (slicePart_ pu (wpAny_bind (wpAny_pure ?_)))))
  show wpAny _ _ (match Builtin.Slice.sliceAdjust lo hi 1 (n : Int) with | (lo, hi) => pure (lo, (1 : Int), Builtin.Slice.slicePlaces lo hi 1)) _ _ s
  rw [adjust_gen lo hi n]
  show wpAny _ _ (pure (((sIx n 0 lo : Nat) : Int), (1 : Int), Builtin.Slice.slicePlaces ((sIx n 0 lo : Nat) : Int) ((sIx n n hi : Nat) : Int) 1)) _ _ s
  rw [places_gen]
  exact wpAny_pure h
theorem pick_gen (xs : Array Value) (i k : Nat) : ((List.range k).filterMap fun (m : Nat) => xs[((i : Int) + (m : Int) * 1).toNat]?).toArray = ((xs.toList.drop i).take k).toArray := by
  have e : (fun (m : Nat) => xs[((i : Int) + (m : Int) * 1).toNat]?) = fun m => xs[i + m]? := by
    funext m
    have : ((i : Int) + (m : Int) * 1).toNat = i + m := by omega
    rw [this]
  rw [e]
  have := pick_run xs i k
  rw [List.filterMap_map] at this
  have e2 : ((fun x => xs[x]?) ∘ fun x => i + x) = fun m => xs[i + m]? := rfl
  rw [e2] at this
  rw [this]
theorem getItem_tuple_cut {t sl : Addr} {items : Array Value} {vl vu : Value} {lo hi : Option Int} {Q : Value → Shared → Prop} (ht : IsTup s.heap t items) (hs : s.heap.IsSliceOf sl vl vu .none) (pl : IsPart vl lo) (pu : IsPart vu hi)
    (hw : ¬ (sIx items.size 0 lo = 0 ∧ sIx items.size items.size hi = items.size))
    (h : Q (.ref s.heap.objs.size) { s with heap := s.heap.push { cls := .type "tuple", data := .seq ((items.toList.drop (sIx items.size 0 lo)).take (sIx items.size items.size hi - sIx items.size 0 lo)).toArray } })
    (hsz : items.size ≤ sizeLine) : wpAny (model prog w) A (getItem (.ref t) (.ref sl)) Q E s := by
  have htake : sizeOk (.seq ((items.toList.drop (sIx items.size 0 lo)).take (sIx items.size items.size hi - sIx items.size 0 lo)).toArray) := by
    show ((items.toList.drop (sIx items.size 0 lo)).take (sIx items.size items.size hi - sIx items.size 0 lo)).toArray.size ≤ sizeLine
    rw [List.size_toArray, List.length_take, List.length_drop, Array.length_toList]
    omega
  have hj : sIx items.size items.size hi ≤ items.size := sIx_le _ _ (Nat.le_refl _) hi
  obtain ⟨os, hos, hcs, hds⟩ := id hs
  have hTs : s.TypeIs (.ref sl) "slice" := ⟨os, hos, hcs⟩
  unfold getItem
  try with_reducible refine wpAny_holding ?_
  first | refine wpAny_bind (wpAny_pure ?_) | skip
  refine wpAny_bind (wpAny_sequenceKey ht.typeIs (by decide) ?_)
  refine wpAny_bind (wpAny_callSpecial?_slot (name := Str.ofString "__getitem__") ht.typeIs PyProof.Rows.slot_tuple_getitem
    (wpAny_call_entry PyProof.Rows.slot_tuple_getitem ht.typeIs entry_tuple_getitem ?_ (args_tuple_getitem _ _)))
  show wpAny _ _ (Builtin.Tuple.tupleItemsOf (.ref t) >>= _) _ _ s
  refine wpAny_bind (tupleItemsOf_ ht ?_)
  refine wpAny_bind (wpAny_typeOf hTs ?_)
  rw [if_pos (by decide)]
  refine wpAny_bind (sliceApplied_gen hs pl pu ?_)
  have hno : ¬ ((((sIx items.size 0 lo : Nat) : Int) == 0 && (1 : Int) == 1 && (sIx items.size items.size hi - sIx items.size 0 lo) == items.size) = true) := by
    intro q
    rw [Bool.and_eq_true, Bool.and_eq_true] at q
    have q1 : ((sIx items.size 0 lo : Nat) : Int) = 0 := eq_of_beq q.1.1
    have q2 : sIx items.size items.size hi - sIx items.size 0 lo = items.size := eq_of_beq q.2
    exact hw ⟨by omega, by omega⟩
  show wpAny _ _ (if (((sIx items.size 0 lo : Nat) : Int) == 0 && (1 : Int) == 1 && (sIx items.size items.size hi - sIx items.size 0 lo) == items.size) = true then _ else _) _ _ s
  rw [if_neg hno, pick_gen]
  first
    | exact wpAny_bind (m := Builtin.Tuple.tupleExact _) (wpAny_newObj_type (wpAny_pure ⟨_, rfl, wpAny_pure h⟩) htake)
    | exact wpAny_bind (m := Builtin.Tuple.tupleExact _) (wpAny_newObj_type (wpAny_bind (wpAny_pure (wpAny_pure ⟨_, rfl, wpAny_pure h⟩))) htake)
    | exact wpAny_bind (wpAny_bind (m := Builtin.Tuple.tupleExact _) (wpAny_newObj_type (wpAny_pure (wpAny_pure ⟨_, rfl, wpAny_pure h⟩)) htake))
    | exact wpAny_bind (wpAny_bind (m := Builtin.Tuple.tupleExact _) (wpAny_newObj_type (wpAny_pure ⟨_, rfl, wpAny_pure h⟩) htake))
end
end HT
namespace L2
open PySem PySem.Spec PyProof.Rows
abbrev TO := St → Hp → (Option Int → Hp → Prop) → Prop
def PO (X : Cx) (e : Option Expr) (t : TO) : Prop :=
  ∀ (pins : List (Addr × Obj)) (s : Shared) (σ : St) (H : Hp) (Q : Option Int → Hp → Prop), Inv X pins σ H s → t σ H Q →
    wpAny (model X.prog X.w) X.A (evalPart e X.env) (fun u s' => ∃ o H', Inv X pins σ H' s' ∧ IsPart u o ∧ Q o H') X.xe s
def tNoPart : TO := fun _ H Q => Q none H
def tPart (t : TE) : TO := fun σ H Q => t σ H fun x H1 => ∃ i, x = .int i ∧ Q (some i) H1
theorem intsAre_of {ns : List Int} : ∀ {us : List Value}, Vals (ns.map V.int) us → IntsAre us ns := by
  induction ns with
  | nil => intro us r; rw [List.map_nil] at r; cases r; exact .nil
  | cons n ns ih =>
    intro us r
    rw [List.map_cons] at r
    cases r with
    | cons r1 r2 =>
      obtain ⟨t, e⟩ := r1
      subst e
      exact .cons n t (ih r2)
section
variable {X : Cx} {e : Expr} {te : TE} {lo hi : Option Expr} {tl th : TO} {pos p2 : Pos}
theorem po_none : PO X none tNoPart := by
  intro pins s σ H Q I h
  rw [evalPart_none]
  exact wpAny_pure ⟨none, H, I, .none, h⟩
theorem po_some (h : PE X e te) : PO X (some e) (tPart te) := by
  intro pins s σ H Q I hw
  rw [evalPart_some]
  refine thn (h pins s σ H _ I hw) fun u s1 ⟨x, H1, I1, r1, q1⟩ => ?_
  obtain ⟨i, rfl, q⟩ := q1
  obtain ⟨t, rfl⟩ := r1
  exact ⟨some i, H1, I1, .int i t, q⟩
def SlR (X : Cx) (r : V → Option Int → Option Int → Hp → VK → Prop) : Prop :=
  ∀ (pins : List (Addr × Obj)) (s : Shared) (σ : St) (H : Hp) (x : V) (v vl vu : Value) (lo hi : Option Int) (sl : Addr) (Q : VK), Inv X pins σ H s → RelV x v → s.heap.IsSliceOf sl vl vu .none → IsPart vl lo → IsPart vu hi → r x lo hi H Q →
    ∃ T id, typeLookup (.type T) "__getitem__" = pure (some (.builtin id)) ∧ s.TypeIs v T ∧ wpAny (model X.prog X.w) X.A (getItem v (.ref sl)) (EP X pins σ Q) X.xe s
def tSl (r : V → Option Int → Option Int → Hp → VK → Prop) (te : TE) (tl th : TO) : TE := fun σ H Q => te σ H fun x H1 => tl σ H1 fun l H2 => th σ H2 fun u H3 => r x l u H3 Q
theorem pe_slice {r : V → Option Int → Option Int → Hp → VK → Prop} (hr : SlR X r) (he : PE X e te) (hl : PO X lo tl) (hu : PO X hi th) : PE X (.Subscript e (.Slice lo hi none p2) pos) (tSl r te tl th) := by
  intro pins s σ H Q I h
  refine Subscript_ (thn (he pins s σ H _ I h) fun v s1 ⟨x, H1, I1, r1, q1⟩ => ?_)
  refine wpAny_Slice (thn (hl pins s1 σ H1 _ I1 q1) fun vl s2 ⟨l, H2, I2, pl, q2⟩ => thn (hu pins s2 σ H2 _ I2 q2) fun vu s3 ⟨u, H3, I3, pu, q3⟩ => ?_)
  rw [evalPart_none]
  refine wpAny_pure ?_
  have I4 : Inv X pins σ H3 { s3 with heap := s3.heap.push { cls := .type "slice", data := .fields #[vl, vu, .none] } } := I3.kept (t' := s3.toks) fun b ob q => Heap.get?_push_of_some _ q
  obtain ⟨T, id, hT, ht, hg⟩ := hr pins { s3 with heap := s3.heap.push { cls := .type "slice", data := .fields #[vl, vu, .none] } } σ H3 x v vl vu l u s3.heap.objs.size Q I4 r1 (Heap.IsSliceOf.new ..) pl pu q3
  show wpAny (model X.prog X.w) X.A (subscriptTail e (.Slice lo hi none p2) v (.ref s3.heap.objs.size)) (EP X pins σ Q) X.xe { s3 with heap := s3.heap.push { cls := .type "slice", data := .fields #[vl, vu, .none] } }
  exact tail_any (ops := [.ref s3.heap.objs.size, v]) ht hT hg (by with_unfolding_all rfl)
def cutV (xs : List V) (lo hi : Option Int) : List V := (xs.drop (HT.sIx xs.length 0 lo)).take (HT.sIx xs.length xs.length hi - HT.sIx xs.length 0 lo)
theorem cutV_length (xs : List V) (lo hi : Option Int) : (cutV xs lo hi).length ≤ xs.length := by
  unfold cutV
  rw [List.length_take, List.length_drop]
  omega
def rSlT (K : PySem.W.Frag) : V → Option Int → Option Int → Hp → VK → Prop := fun x lo hi H Q => ∃ a xs, x = .ref a ∧ SqT K H a xs ∧
  ¬ (HT.sIx xs.length 0 lo = 0 ∧ HT.sIx xs.length xs.length hi = xs.length) ∧ ∀ p, H p = none → Q (.ref p) (upd H p (.tup (cutV xs lo hi)))
theorem sl_tup : SlR X (rSlT X.K) := by
  intro pins s σ H x v vl vu lo hi sl Q I rx hs pl pu h
  obtain ⟨a, xs, rfl, hx, hw, q⟩ := h
  cases rx
  obtain ⟨its, r, ht, hz⟩ := I.tuple hx
  have hlen : its.toArray.size = xs.length := by rw [List.size_toArray]; exact r.length.symm
  refine ⟨"tuple", _, PyProof.Rows.slot_tuple_getitem.lookup, ht.typeIs, ?_⟩
  refine HT.getItem_tuple_cut ht hs pl pu (by rw [hlen]; exact hw) ?_ (by rw [hlen]; exact hz)
  rw [hlen]
  refine ⟨.ref s.heap.objs.size, _, I.laid (t' := s.toks) (o := .tup (cutV xs lo hi)) (fun b ob q => Heap.get?_push_of_some _ q) (Nat.le_refl _) ?_, rfl, q _ (I.hok.fresh (Nat.le_refl _))⟩
  exact ⟨Nat.le_trans (cutV_length xs lo hi) hz, _, (r.drop (HT.sIx xs.length 0 lo)).take (HT.sIx xs.length xs.length hi - HT.sIx xs.length 0 lo), IsTup.new _ _⟩
def rCatT (K : PySem.W.Frag) : R2 := fun x y H Q => ∃ a b xs ys, x = .ref a ∧ y = .ref b ∧ SqT K H a xs ∧ SqT K H b ys ∧ xs ≠ [] ∧ xs.length + ys.length ≤ sizeLine ∧
  (ys = [] → Q (.ref a) H) ∧ (ys ≠ [] → ∀ p, H p = none → Q (.ref p) (upd H p (.tup (xs ++ ys))))
theorem Vals.nil_iff {xs : List V} {us : List Value} (r : Vals xs us) : us = [] ↔ xs = [] := by
  cases r with
  | nil => simp
  | cons _ _ => simp
theorem op_catT : OpR X (binaryOp .Add) (rCatT X.K) := by
  intro pins s σ H x y v u Q I rx ry h
  obtain ⟨a, b, xs, ys, rfl, rfl, ha, hb, hx, hz, q1, q2⟩ := h
  cases rx
  cases ry
  obtain ⟨its, r1, p1, _⟩ := I.tuple ha
  obtain ⟨its2, r2, p2, _⟩ := I.tuple hb
  refine HT.cat_tup p1 p2 (fun z => hx (r1.nil_iff.mp z)) (fun z => ⟨.ref a, H, I, rfl, q1 (r2.nil_iff.mp z)⟩) (fun z => ?_) (by rw [← r1.length, ← r2.length]; exact hz)
  refine ⟨.ref s.heap.objs.size, _, I.laid (t' := s.toks) (o := .tup (xs ++ ys)) (fun b ob q => Heap.get?_push_of_some _ q) (Nat.le_refl _) ?_, rfl, q2 (fun w => z (r2.nil_iff.mpr w)) _ (I.hok.fresh (Nat.le_refl _))⟩
  exact ⟨by rw [List.length_append]; exact hz, _, r1.append r2, IsTup.new _ _⟩
end
end L2
namespace L2
open PySem PySem.Spec PyProof.Rows
def ixN (n : Nat) (i : Int) : Option Nat := if 0 ≤ i then (if i < n then some i.toNat else none) else if -(n : Int) ≤ i then some (i + n).toNat else none
def atI {α : Type} (xs : List α) (i : Int) : Option α := (ixN xs.length i).bind fun j => xs[j]?
theorem ixN_seq {n : Nat} {i : Int} {j : Nat} (h : ixN n i = some j) : seqIndex? i n = some j ∧ j < n ∧ -(n : Int) ≤ i ∧ i < n := by
  unfold ixN at h
  by_cases h0 : 0 ≤ i
  · rw [if_pos h0] at h
    by_cases h1 : i < n
    · rw [if_pos h1] at h
      have e : i.toNat = j := Option.some.inj h
      exact ⟨by rw [seqIndex_of h0 h1, e], by omega, by omega, h1⟩
    · rw [if_neg h1] at h; cases h
  · rw [if_neg h0] at h
    by_cases h1 : -(n : Int) ≤ i
    · rw [if_pos h1] at h
      have e : (i + n).toNat = j := Option.some.inj h
      exact ⟨by rw [seqIndex_neg (by omega) h1, e], by omega, h1, by omega⟩
    · rw [if_neg h1] at h; cases h
theorem atI_get {α : Type} {xs : List α} {i : Int} {v : α} (h : atI xs i = some v) : ∃ j, seqIndex? i xs.length = some j ∧ xs[j]? = some v ∧ j < xs.length ∧ -(xs.length : Int) ≤ i ∧ i < xs.length := by
  unfold atI at h
  cases e : ixN xs.length i with
  | none => rw [e] at h; cases h
  | some j =>
    rw [e] at h
    obtain ⟨h1, h2, h3, h4⟩ := ixN_seq e
    exact ⟨j, h1, h, h2, h3, h4⟩
theorem atI_nat {α : Type} {xs : List α} {j : Nat} {v : α} (h : xs[j]? = some v) : atI xs (j : Int) = some v := by
  have hj : j < xs.length := (List.getElem?_eq_some_iff.mp h).1
  have e : ixN xs.length (j : Int) = some j := by
    unfold ixN
    rw [if_pos (by omega), if_pos (by omega)]; simp
  unfold atI; rw [e]; exact h
def PlainIx (b : Expr) : Prop := ∀ o i, subscripted b false o i = operate [o, i] (getItem o i)
def IxR (X : Cx) (r : R2) : Prop :=
  ∀ (value slice : Expr) (pins : List (Addr × Obj)) (s : Shared) (σ : St) (H : Hp) (x y : V) (v u : Value) (Q : VK), Inv X pins σ H s → RelV x v → RelV y u → r x y H Q →
    subscripted slice false v u = operate [v, u] (getItem v u) → wpAny (model X.prog X.w) X.A (subscriptTail value slice v u) (EP X pins σ Q) X.xe s
def MtR (X : Cx) (id : String) (r : V → List V → Hp → VK → Prop) : Prop :=
  ∀ (pins : List (Addr × Obj)) (s : Shared) (σ : St) (H : Hp) (x : V) (xs : List V) (v : Value) (us : List Value) (Q : VK), Inv X pins σ H s → RelV x v → Vals xs us → r x xs H Q →
    wpAny (model X.prog X.w) X.A (call (.builtin id) (v :: us)) (EP X pins σ Q) X.xe s
section
variable {X : Cx} {a b : Expr} {ta tb : TE} {pos : Pos}
theorem pe_ix {r : R2} (hr : IxR X r) (ha : PE X a ta) (hb : PE X b tb) (hs : PlainIx b) : PE X (.Subscript a b pos) (tOp r ta tb) := by
  intro pins s σ H Q I h
  exact Subscript_ (binT ha hb I h fun v u s2 x y H2 I2 rx ry q => hr a b pins s2 σ H2 x y v u Q I2 rx ry q (hs _ _))
def rIxL (K : PySem.W.Frag) : R2 := fun x y H Q => ∃ p xs i v, x = .ref p ∧ y = .int i ∧ SqL K H p xs ∧ atI xs i = some v ∧ Q v H
def rIxT (K : PySem.W.Frag) : R2 := fun x y H Q => ∃ p xs i v, x = .ref p ∧ y = .int i ∧ SqT K H p xs ∧ atI xs i = some v ∧ Q v H
def rIxS : R2 := fun x y H Q => ∃ z i c, x = .str z ∧ y = .int i ∧ z.length ≤ sizeLine ∧ atI z.cps.toList i = some c ∧ Q (.str ⟨#[c]⟩) H
theorem ix_list : IxR X (rIxL X.K) := by
  intro value slice pins s σ H x y v u Q I rx ry h hs
  obtain ⟨p, xs, i, z, rfl, rfl, hq, he, q⟩ := h
  cases rx
  obtain ⟨t, rfl⟩ := ry
  obtain ⟨its, r, pl, hz⟩ := I.list hq
  obtain ⟨j, h1, h2, h3, h4, h5⟩ := atI_get he
  obtain ⟨w, ew, rw'⟩ := r.get h2
  have hl := r.length
  have hn := line63
  have fin : EP X pins σ Q w s := ⟨z, H, I, rw', q⟩
  by_cases h0 : 0 ≤ i
  · have hj : i.toNat = j := by
      rw [seqIndex_of h0 h5] at h1
      exact Option.some.inj h1
    exact item_listR pl.isList h0 (by omega) (by rw [hj]; simpa using ew) fin hs
  · have hj : (i + (its.toArray.size : Int)).toNat = j := by
      rw [seqIndex_neg (by omega) h4] at h1
      rw [List.size_toArray, ← hl]
      exact Option.some.inj h1
    exact subscriptTail_builtinR (x := w) pl.isList.typeIs slot_list_getitem.lookup
      (wpAny_getItem_list_neg (Q := fun r s' => r = w ∧ EP X pins σ Q r s') pl.isList (by omega) (by rw [List.size_toArray] <;> omega) (by omega) (by rw [hj]; simpa using ew) ⟨rfl, fin⟩) hs
theorem ix_tup : IxR X (rIxT X.K) := by
  intro value slice pins s σ H x y v u Q I rx ry h hs
  obtain ⟨p, xs, i, z, rfl, rfl, hq, he, q⟩ := h
  cases rx
  obtain ⟨t, rfl⟩ := ry
  obtain ⟨its, r, pl, hz⟩ := I.tuple hq
  obtain ⟨j, h1, h2, h3, h4, h5⟩ := atI_get he
  obtain ⟨w, ew, rw'⟩ := r.get h2
  have hl := r.length
  have hn := line63
  have fin : EP X pins σ Q w s := ⟨z, H, I, rw', q⟩
  exact subscriptTail_builtinR (x := w) pl.typeIs slot_tuple_getitem.lookup
    (getItem_tuple (j := j) (Q := fun r s' => r = w ∧ EP X pins σ Q r s') pl (by omega) (by omega) (by rw [List.size_toArray, ← hl]; exact h1) (by simpa using ew) ⟨rfl, fin⟩) hs
theorem ix_str : IxR X rIxS := by
  intro value slice pins s σ H x y v u Q I rx ry h hs
  obtain ⟨z, i, c, rfl, rfl, hz, he, q⟩ := h
  obtain ⟨t, rfl⟩ := rx
  obtain ⟨t', rfl⟩ := ry
  obtain ⟨j, h1, h2, h3, h4, h5⟩ := atI_get he
  have hl : z.cps.toList.length = z.length := by simp [Str.length]
  rw [hl] at h1 h4 h5
  have hn := line63
  exact tail_any (typeIs_str s z t) slot_str_getitem.lookup (getItem_str (c := c) (by
    have e1 : decide (i < -(2 ^ 63 : Int)) = false := decide_eq_false (by omega)
    have e2 : decide (i ≥ 2 ^ 63) = false := decide_eq_false (by omega)
    rw [e1, e2, Bool.or_false]) (by rw [h1]; simpa using h2) ⟨.str ⟨#[c]⟩, H, I.tok _, ⟨_, rfl⟩, q⟩) hs
theorem mapSeq_set (its : List Value) (n j : Nat) (u : Value) : Obj.mapSeq (·.setIfInBounds j u) { cls := .type "list", data := .seq its.toArray n } = { cls := .type "list", data := .seq (its.set j u).toArray n } := by
  simp [Obj.mapSeq]
theorem Inv.lst {pins : List (Addr × Obj)} {σ : St} {H : Hp} {s : Shared} {p : Addr} {xs : List V} (I : Inv X pins σ H s) (h : H p = some (.lst xs)) :
    ∃ (its : List Value) (n : Nat), Vals xs its ∧ s.heap.get? p = some { cls := .type "list", data := .seq its.toArray n } ∧ xs.length ≤ sizeLine := by
  obtain ⟨z, its, n, r, e⟩ := I.hok p _ h
  exact ⟨its, n, r, e, z⟩
theorem Inv.lstUpd {pins : List (Addr × Obj)} {σ : St} {H : Hp} {s : Shared} {p : Addr} {xs ys : List V} {its its' : List Value} {n n' : Nat} {f : Obj → Obj} (I : Inv X pins σ H s) (h : H p = some (.lst xs))
    (ho : s.heap.get? p = some { cls := .type "list", data := .seq its.toArray n }) (hf : f { cls := .type "list", data := .seq its.toArray n } = { cls := .type "list", data := .seq its'.toArray n' }) (r : Vals ys its') (hz : ys.length ≤ sizeLine) (t : Nat) :
    Inv X pins σ (upd H p (.lst ys)) { s with heap := s.heap.update p f, toks := t } := by
  have e : (s.heap.update p f).get? p = some { cls := .type "list", data := .seq its'.toArray n' } := by
    rw [Heap.get?_update_self f ho (by rw [hf] <;> rfl), hf]
  refine I.write (x := p) (e := p) (by rw [h]; trivial) (.inl rfl) (fun b u hb q => (Heap.get?_update_other _ _ (Ne.symm hb)).trans q) ⟨_, e⟩ ?_
  exact ⟨hz, its', n', r, e⟩
def rSetL : V → V → V → Hp → (Hp → Prop) → Prop := fun o i v H Q => ∃ p xs k j, o = .ref p ∧ i = .int k ∧ H p = some (.lst xs) ∧ ixN xs.length k = some j ∧ Q (upd H p (.lst (xs.set j v)))
theorem set_list : PSet X rSetL := by
  intro pins s σ H o i v ov iv u Q I ro ri rv h
  obtain ⟨p, xs, k, j, rfl, rfl, hp, hj, q⟩ := h
  cases ro
  obtain ⟨t, rfl⟩ := ri
  obtain ⟨its, n, r, ho, hz⟩ := I.lst hp
  obtain ⟨h1, h2, h3, h4⟩ := ixN_seq hj
  have hl := r.length
  have hn := line63
  have I' : Inv X pins σ (upd H p (.lst (xs.set j v))) { s with heap := s.heap.update p (Obj.mapSeq (·.setIfInBounds j u)) } :=
    I.lstUpd hp ho (mapSeq_set its n j u) (r.set rv j) (by rw [List.length_set]; exact hz) s.toks
  by_cases h0 : 0 ≤ k
  · have hk : k.toNat = j := by
      rw [seqIndex_of h0 h4] at h1
      exact Option.some.inj h1
    exact PySem.W.ki_setAt ho h0 (by omega) (by rw [List.size_toArray, ← hl]; exact h4) (by rw [hk]; exact ⟨_, I', q⟩)
  · have hk : (k + (its.toArray.size : Int)).toNat = j := by
      rw [seqIndex_neg (by omega) h3] at h1
      rw [List.size_toArray, ← hl]
      exact Option.some.inj h1
    exact PySem.W.ki_setBack ho (by omega) (by rw [List.size_toArray, ← hl]; exact h3) (by omega) (by rw [hk]; exact ⟨_, I', q⟩)
theorem sb_some (i : Int) (n d : Nat) : max 0 (min (if i < 0 then i + (n : Int) else i) (n : Int)) = ((HT.sIx n d (some i) : Nat) : Int) := by
  rw [← HT.clip_eq]
  by_cases h : i < 0
  · rw [if_pos h, if_pos h, Int.max_comm, Int.min_eq_left (Int.add_le_of_le_sub_right (by rw [Int.sub_self]; exact Int.le_of_lt h))]
  · rw [if_neg h, if_neg h]
    exact Int.max_eq_right (Int.le_min.mpr ⟨Int.not_lt.mp h, Int.natCast_nonneg n⟩)
theorem slice_bounds (lo hi : Option Int) (n : Nat) : (sliceBounds lo hi none n).1 = ((HT.sIx n 0 lo : Nat) : Int) ∧ (sliceBounds lo hi none n).2.1 = ((HT.sIx n n hi : Nat) : Int) ∧ (sliceBounds lo hi none n).2.2 = 1 := by
  refine ⟨?_, ?_, rfl⟩
  · cases lo with
    | none => rfl
    | some i => exact sb_some i n 0
  · cases hi with
    | none => rfl
    | some i => exact sb_some i n n
theorem slicePick_cut (its : List Value) (lo hi : Option Int) : slicePick its.toArray lo hi none = ((its.drop (HT.sIx its.length 0 lo)).take (HT.sIx its.length its.length hi - HT.sIx its.length 0 lo)).toArray := by
  obtain ⟨h1, h2, h3⟩ := slice_bounds lo hi its.toArray.size
  unfold slicePick
  rw [h1, h2, h3]
  simp only [sliceRange_one, pick_run, List.size_toArray] <;> rfl
def rSlL (K : PySem.W.Frag) : V → Option Int → Option Int → Hp → VK → Prop := fun x lo hi H Q => ∃ a xs, x = .ref a ∧ SqL K H a xs ∧ ∀ p, H p = none → Q (.ref p) (upd H p (.lst (cutV xs lo hi)))
theorem sl_list : SlR X (rSlL X.K) := by
  intro pins s σ H x v vl vu lo hi sl Q I rx hs pl pu h
  obtain ⟨a, xs, rfl, hx, q⟩ := h
  cases rx
  obtain ⟨its, r, ht, hz⟩ := I.list hx
  have hlen := r.length
  refine ⟨"list", _, slot_list_getitem.lookup, ht.isList.typeIs, ?_⟩
  refine wpAny_getItem_list_slice ht.isList hs pl pu .none (by simp) ?_ (by rw [List.size_toArray] <;> omega)
  rw [slicePick_cut, ← hlen]
  refine ⟨.ref s.heap.objs.size, _, I.laid (t' := s.toks) (o := .lst (cutV xs lo hi)) (fun b ob q => Heap.get?_push_of_some _ q) (Nat.le_refl _) ?_, rfl, q _ (I.hok.fresh (Nat.le_refl _))⟩
  exact ⟨Nat.le_trans (cutV_length xs lo hi) hz, _, 0, (r.drop (HT.sIx xs.length 0 lo)).take (HT.sIx xs.length xs.length hi - HT.sIx xs.length 0 lo), Heap.get?_push_size _ rfl⟩
theorem call_len_seq : CallR X (.builtin "len") (fun xs H Q => ∃ p ys, xs = [.ref p] ∧ (SqL X.K H p ys ∨ SqT X.K H p ys) ∧ Q (.int ys.length) H) := by
  intro pins s σ H xs us Q I r h
  obtain ⟨p, ys, rfl, hq, q⟩ := h
  obtain ⟨u, rfl, rx⟩ := vals1 r
  cases rx
  have hn := line63
  rcases hq with hq | hq
  · obtain ⟨its, r', pl, hz⟩ := I.list hq
    have hlen := r'.length
    exact Calls.call_len_list pl.isList (by simp only [List.size_toArray] <;> omega) ⟨.int ys.length, H, I.tok _, ⟨s.toks + 1, by rw [List.size_toArray, hlen]⟩, q⟩
  · obtain ⟨its, r', pl, hz⟩ := I.tuple hq
    have hlen := r'.length
    exact len_tuple pl (by simp only [List.size_toArray] <;> omega) ⟨.int ys.length, H, I.tok _, ⟨s.toks + 1, by rw [List.size_toArray, hlen]⟩, q⟩
theorem call_len_str : CallR X (.builtin "len") (fun xs H Q => ∃ z, xs = [.str z] ∧ z.length ≤ sizeLine ∧ Q (.int z.length) H) := by
  intro pins s σ H xs us Q I r h
  obtain ⟨z, rfl, hz, q⟩ := h
  obtain ⟨u, rfl, t, rfl⟩ := vals1 r
  have hn := line63
  exact len_str (by omega) ⟨.int z.length, H, I.tok _, ⟨_, rfl⟩, q⟩
theorem call_list_of : CallR X (.type "list") (fun xs H Q => ∃ p ys, xs = [.ref p] ∧ (SqL X.K H p ys ∨ SqT X.K H p ys) ∧ ∀ l, H l = none → Q (.ref l) (upd H l (.lst ys))) := by
  intro pins s σ H xs us Q I r h
  obtain ⟨p, ys, rfl, hq, q⟩ := h
  obtain ⟨u, rfl, rx⟩ := vals1 r
  cases rx
  have fin : ∀ (its : List Value), Vals ys its → ys.length ≤ sizeLine → ∀ (h' : Heap) (c' : Nat), (∀ b o', s.heap.get? b = some o' → h'.get? b = some o') →
      h'.get? s.heap.objs.size = some { cls := .type "list", dict := none, data := .seq its.toArray c', slots := #[] } → EP X pins σ Q (.ref s.heap.objs.size) { s with heap := h' } := fun its r' hz h' c' kp e =>
    ⟨.ref s.heap.objs.size, _, I.laid (t' := s.toks) kp (Nat.le_refl _) (show ObjOk X.prog X.w _ h' _ (.lst ys) from ⟨hz, its, c', r', e⟩), rfl, q _ (I.hok.fresh (Nat.le_refl _))⟩
  rcases hq with hq | hq
  · obtain ⟨its, r', pl, hz⟩ := I.list hq
    have hlen := r'.length
    obtain ⟨o, ho, hc, n, hd⟩ := pl.isList
    exact call_list_seq p (.inl rfl) ho hc hd (fun h' c' kp e => fin its r' hz h' c' kp e) (by simp only [List.size_toArray] <;> omega)
  · obtain ⟨its, r', pl, hz⟩ := I.tuple hq
    have hlen := r'.length
    obtain ⟨o, ho, hc, n, hd⟩ := pl
    exact call_list_seq p (.inr rfl) ho hc hd (fun h' c' kp e => fin its r' hz h' c' kp e) (by simp only [List.size_toArray] <;> omega)
theorem call_tuple_of : CallR X (.type "tuple") (fun xs H Q => ∃ p ys, xs = [.ref p] ∧ ((SqL X.K H p ys ∧ ∀ l, H l = none → Q (.ref l) (upd H l (.tup ys))) ∨ (SqT X.K H p ys ∧ Q (.ref p) H))) := by
  intro pins s σ H xs us Q I r h
  obtain ⟨p, ys, rfl, h⟩ := h
  obtain ⟨u, rfl, rx⟩ := vals1 r
  cases rx
  rcases h with ⟨hq, q⟩ | ⟨hq, q⟩
  · obtain ⟨its, r', pl, hz⟩ := I.list hq
    have hlen := r'.length
    refine call_tuple_list pl.isList (fun h' kp => ?_) (by simp only [List.size_toArray] <;> omega)
    have I1 : Inv X pins σ H { s with heap := h' } := I.kept (t' := s.toks) kp
    have I2 : Inv X pins σ (upd H h'.objs.size (.tup ys)) { s with heap := h'.push { cls := .type "tuple", data := .seq its.toArray } } :=
      I1.laid (t' := s.toks) (fun b o e => Heap.get?_push_of_some _ e) (Nat.le_refl _) (show ObjOk X.prog X.w _ _ _ (.tup ys) from ⟨hz, its, r', IsTup.new _ _⟩)
    exact ⟨.ref h'.objs.size, _, I2, rfl, q _ (I1.hok.fresh (Nat.le_refl _))⟩
  · obtain ⟨its, r', pl, hz⟩ := I.tuple hq
    exact call_tuple_same pl ⟨.ref p, H, I, rfl, q⟩
def tyV (K : PySem.W.Frag) (T : String) (x : V) (H : Hp) : Prop := match x with
  | .str _ => T = "str"
  | .int _ => T = "int"
  | .ref p => (T = "list" ∧ ∃ xs, SqL K H p xs) ∨ (T = "tuple" ∧ ∃ o, K.lookup p = some o ∧ o.cls = .type "tuple" ∧ o.dict = none) ∨
      (T = "dict" ∧ ((∃ kvs, H p = some (.dK kvs)) ∨ ∃ kvs, H p = some (.dT kvs))) ∨ (T = "set" ∧ ∃ S n, H p = some (.set S n))
  | _ => False
theorem tyV_is {pins : List (Addr × Obj)} {σ : St} {H : Hp} {s : Shared} {T : String} {x : V} {v : Value} (I : Inv X pins σ H s) (r : RelV x v) (ty : tyV X.K T x H) :
    s.TypeIs v T ∧ ∀ a, v = .ref a → ∃ ob, s.heap.get? a = some ob ∧ ob.dict = none := by
  cases x with
  | str z =>
    obtain ⟨t, rfl⟩ := r
    cases (show T = "str" from ty)
    exact ⟨typeIs_str s z t, fun _ e => nomatch e⟩
  | int i =>
    obtain ⟨t, rfl⟩ := r
    cases (show T = "int" from ty)
    exact ⟨typeIs_int s i t, fun _ e => nomatch e⟩
  | ref p =>
    cases r
    rcases ty with ⟨rfl, xs, hq⟩ | ⟨rfl, o, hk, hc, hd⟩ | ⟨rfl, hk⟩ | ⟨rfl, S, n, hk⟩
    · obtain ⟨its, _, pl, _⟩ := I.list hq
      refine ⟨pl.isList.typeIs, fun a e => ?_⟩
      cases e
      obtain ⟨o, n, e, c, hd, _⟩ := pl
      exact ⟨o, e, hd⟩
    · refine ⟨⟨o, I.kIn p o hk, hc⟩, fun a e => ?_⟩
      cases e
      exact ⟨o, I.kIn _ o hk, hd⟩
    · have z : ∃ o, s.heap.get? p = some o ∧ o.ExactDict := by
        rcases hk with ⟨kvs, hk⟩ | ⟨kvs, hk⟩
        · obtain ⟨_, _, _, _, o, _, _, e, ex, _⟩ := I.hok p _ hk
          exact ⟨o, e, ex⟩
        · obtain ⟨_, _, _, _, o, _, _, e, ex, _⟩ := I.hok p _ hk
          exact ⟨o, e, ex⟩
      obtain ⟨o, e, ex⟩ := z
      refine ⟨⟨o, e, ex.1⟩, fun a e2 => ?_⟩
      cases e2
      exact ⟨o, e, ex.2.1⟩
    · obtain ⟨o, _, _, _, e, ex, _⟩ := I.hok p _ hk
      refine ⟨⟨o, e, ex.1⟩, fun a e2 => ?_⟩
      cases e2
      exact ⟨o, e, ex.2.1⟩
  | _ => exact False.elim ty
def tBM0 (K : PySem.W.Frag) (T : String) (r : V → List V → Hp → VK → Prop) (to : TE) : TE := fun σ H Q => to σ H fun x H1 => tyV K T x H1 ∧ r x [] H1 Q
def tBM (K : PySem.W.Frag) (T : String) (r : V → List V → Hp → VK → Prop) (to : TE) (t : TA) : TE := fun σ H Q => to σ H fun x H1 => tyV K T x H1 ∧ t σ H1 fun xs H2 => r x xs H2 Q
variable {o e : Expr} {es : List Expr} {to : TE} {t : TA} {name : Str} {apos cpos : Pos} {T id : String} {r : V → List V → Hp → VK → Prop}
theorem pe_bm0 (pa : PlainAttrs T) (slot : Slot T name id) (hty : typeOf (.builtin id) = pure (.type "method_descriptor")) (hm : MtR X id r) (ho : PE X o to)
    (hbase : attributeBase o name X.env (eval o X.env) = eval o X.env := by rfl) (hline : (apos.endLine == cpos.line) = true := by rfl) : PE X (.Call (.Attribute o name apos) [] [] cpos) (tBM0 X.K T r to) := by
  intro pins s σ H Q I h
  refine wpAny_Call_method0_late hbase hline (thn (ho pins s σ H _ I h) fun v s1 ⟨x, H1, I1, r1, ty, q1⟩ => ?_)
  obtain ⟨h1, h2⟩ := tyV_is I1 r1 ty
  exact ⟨T, id, pa, slot, hty, h1, h2, Calls.callWith_builtin rfl (PySem.evalArgs_none (hm pins s1 σ H1 x [] v [] Q I1 r1 .nil q1))⟩
theorem pe_bm (pa : PlainAttrs T) (slot : Slot T name id) (hty : typeOf (.builtin id) = pure (.type "method_descriptor")) (hm : MtR X id r) (ho : PE X o to) (ha : PA X (e :: es) t)
    (hbase : attributeBase o name X.env (eval o X.env) = eval o X.env := by rfl)
    (hfew : ((backTo cpos (starEach (e :: es) X.env)).all (fun x => !x.1) && (backToKw cpos (keywordEach [] X.env)).all (fun x => x.1.isSome)
      && decide ((e :: es).length + ([] : List Keyword).length + (if ([] : List Keyword).isEmpty then 0 else 1) < 30)) = true := by rfl)
    (hline : (apos.endLine == cpos.line) = true := by rfl) (hs : starEach (e :: es) X.env = (false, eval e X.env) :: starEach es X.env := by rfl) (hplain : (backTo cpos (starEach es X.env)).any (·.1) = false := by rfl) :
    PE X (.Call (.Attribute o name apos) (e :: es) [] cpos) (tBM X.K T r to t) := by
  intro pins s σ H Q I h
  refine wpAny_Call_method_late hbase hfew hline rfl (thn (ho pins s σ H _ I h) fun v s1 ⟨x, H1, I1, r1, ty, q1⟩ => ?_)
  obtain ⟨h1, h2⟩ := tyV_is I1 r1 ty
  refine ⟨T, id, pa, slot, hty, h1, h2, ?_⟩
  have hA := ha cpos pins s1 σ H1 _ I1 q1
  rw [hs] at hA ⊢
  refine Calls.callWith_builtin (by show (false || (backTo cpos (starEach es X.env)).any (·.1)) = false; rw [hplain] <;> rfl) (Calls.evalArgs_plain ?_)
  exact thn hA fun us s2 ⟨vs, H2, I2, r2, q2⟩ => hm pins s2 σ H2 x vs v us Q I2 r1 r2 q2
/- xs.append(e), list.index on a module's tuple .. are MtR facts of 06m -/
end
end L2
namespace L2
open PySem PySem.Spec PyProof.Rows
def MtM (X : Cx) (id : String) (r : V → List V → Hp → VK → Prop) : Prop :=
  ∀ (pins : List (Addr × Obj)) (s : Shared) (σ : St) (H : Hp) (x : V) (xs : List V) (v : Value) (us : List Value) (Q : VK), Inv X pins σ H s → RelV x v → Vals xs us → r x xs H Q →
    wpAny (model X.prog X.w) X.A (call (.builtin id) (v :: us)) (EP X pins σ Q) X.xe s
theorem Vals.one : ∀ {x : V} {us : List Value}, Vals [x] us → ∃ u, us = [u] ∧ RelV x u
  | _, _, .cons r .nil => ⟨_, rfl, r⟩
theorem Vals.zero : ∀ {us : List Value}, Vals [] us → us = []
  | _, .nil => rfl
theorem Vals.dropLast {xs : List V} {us : List Value} (h : Vals xs us) : Vals xs.dropLast us.dropLast := by
  induction h with
  | nil => exact .nil
  | cons r t ih =>
    cases t with
    | nil => exact .nil
    | cons q t' => exact .cons r ih
theorem erase_last {α : Type} (l : List α) : l.eraseIdx (l.length - 1) = l.dropLast := by
  induction l with
  | nil => rfl
  | cons a r ih =>
    cases r with
    | nil => rfl
    | cons b r =>
      have e : (a :: b :: r).length - 1 = ((b :: r).length - 1) + 1 := by
        have h1 : (a :: b :: r).length = r.length + 2 := rfl
        have h2 : (b :: r).length = r.length + 1 := rfl
        omega
      rw [e, List.eraseIdx_cons_succ, ih]
      all_goals rfl
section
variable {X : Cx} {pins : List (Addr × Obj)} {σ : St} {H : Hp} {s : Shared} {l b : Addr} {xs ys zs : List V}
theorem Inv.lset {its its' : List Value} {n : Nat} {f : Array Value → Array Value} {t' : Nat} (I : Inv X pins σ H s) (hH : H l = some (.lst xs))
    (e : s.heap.get? l = some { cls := .type "list", data := .seq its.toArray n }) (hf : f its.toArray = its'.toArray) (hv : Vals ys its') (hz : ys.length ≤ sizeLine) :
    Inv X pins σ (upd H l (.lst ys)) { s with heap := s.heap.update l (Obj.mapSeq f), toks := t' } := by
  have q := PySem.IsL.update e f
  rw [hf] at q
  refine I.write (x := l) (e := l) (by rw [hH]; exact trivial) (.inl rfl) (fun b' u hb hu => (Heap.get?_update_other s.heap (Obj.mapSeq f) (Ne.symm hb)).trans hu) ⟨_, q⟩ ?_
  exact ⟨hz, its', _, hv, q⟩
theorem Inv.lnew {its : List Value} {t' : Nat} (I : Inv X pins σ H s) (hv : Vals ys its) (hz : ys.length ≤ sizeLine) :
    Inv X pins σ (upd H s.heap.objs.size (.lst ys)) { s with heap := s.heap.push { cls := .type "list", data := .seq its.toArray }, toks := t' } :=
  I.laid (fun _ _ q => Heap.get?_push_of_some _ q) (Nat.le_refl _) ⟨hz, its, 0, hv, Heap.get?_push_size _ rfl⟩
theorem Inv.fresh (I : Inv X pins σ H s) : H s.heap.objs.size = none := I.hok.fresh (Nat.le_refl _)
theorem Inv.lstM (I : Inv X pins σ H s) (hH : H l = some (.lst xs)) : xs.length ≤ sizeLine ∧ ∃ (its : List Value) (n : Nat), Vals xs its ∧ xs.length = its.length ∧ s.heap.get? l = some { cls := .type "list", data := .seq its.toArray n } := by
  obtain ⟨z, its, n, r, e⟩ := I.hok l _ hH
  exact ⟨z, its, n, r, r.length, e⟩
theorem notLongL {n : Nat} (h : n ≤ sizeLine) : Builtin.List.listTooLong n = false := by
  unfold Builtin.List.listTooLong
  exact decide_eq_false (by omega)
end
section
variable {X : Cx}
def rAppend : V → List V → Hp → VK → Prop := fun x vs H Q => ∃ l xs y, x = .ref l ∧ vs = [y] ∧ H l = some (.lst xs) ∧ xs.length < sizeLine ∧ Q .non (upd H l (.lst (xs ++ [y])))
theorem mt_append : MtM X "list.append" rAppend := by
  intro pins s σ H x vs v us Q I rx rv h
  obtain ⟨l, xs, y, rfl, rfl, hH, hz, q⟩ := h
  cases rx
  obtain ⟨u, rfl, ru⟩ := rv.one
  obtain ⟨z, its, n, r, hl, e⟩ := I.lstM hH
  refine call_meets F.slot_list_append ⟨_, e, rfl⟩ F.entry_list_append (F.args_list_append_2 _ _) (PySem.list_append l its.toArray n u (by rw [List.size_toArray]; omega)) ⟨e, ?_⟩
  refine ⟨.non, _, I.lset (its' := its ++ [u]) hH e (by simp) (r.append (.cons ru .nil)) ?_, rfl, q⟩
  rw [List.length_append, List.length_singleton]
  omega
def rExtend : V → List V → Hp → VK → Prop := fun x vs H Q => ∃ l b xs zs, x = .ref l ∧ vs = [.ref b] ∧ H l = some (.lst xs) ∧ H b = some (.lst zs) ∧ xs.length + zs.length ≤ sizeLine ∧ Q .non (upd H l (.lst (xs ++ zs)))
theorem mt_extend : MtM X "list.extend" rExtend := by
  intro pins s σ H x vs v us Q I rx rv h
  obtain ⟨l, b, xs, zs, rfl, rfl, hH, hB, hz, q⟩ := h
  cases rx
  obtain ⟨u, rfl, ru⟩ := rv.one
  cases ru
  obtain ⟨z, its, n, r, hl, e⟩ := I.lstM hH
  obtain ⟨z2, its2, n2, r2, hl2, e2⟩ := I.lstM hB
  have hsz : its.toArray.size + its2.toArray.size ≤ sizeLine := by rw [List.size_toArray, List.size_toArray]; omega
  have hlong : ¬ (!its.toArray.isEmpty && Builtin.List.listTooLong (its.toArray.size + its2.toArray.size)) = true := by
    rw [notLongL hsz, Bool.and_false]
    exact Bool.false_ne_true
  refine call_meets F.slot_list_extend ⟨_, e, rfl⟩ F.entry_list_extend (F.args_list_extend_2 _ _)
    (AutoSeq1.list_extend_list_list_0 l its.toArray n b its2.toArray n2 hlong (by rw [List.size_toArray]; omega) (by omega)) ⟨e, e2, ?_⟩
  refine ⟨.non, _, I.lset (its' := its ++ its2) hH e (by simp) (r.append r2) ?_, rfl, q⟩
  rw [List.length_append]
  omega
def rPop : V → List V → Hp → VK → Prop := fun x vs H Q => ∃ l xs y, x = .ref l ∧ vs = [] ∧ H l = some (.lst xs) ∧ xs[xs.length - 1]? = some y ∧ Q y (upd H l (.lst xs.dropLast))
theorem mt_pop : MtM X "list.pop" rPop := by
  intro pins s σ H x vs v us Q I rx rv h
  obtain ⟨l, xs, y, rfl, rfl, hH, hy, q⟩ := h
  cases rx
  have hus := rv.zero
  subst hus
  obtain ⟨z, its, n, r, hl, e⟩ := I.lstM hH
  obtain ⟨u, hu, ru⟩ := r.get hy
  have hy' : its.toArray[its.toArray.size - 1]? = some u := by
    show its.toArray[its.length - 1]? = some u
    rw [← Array.getElem?_toList, ← hl]
    exact hu
  refine call_meets F.slot_list_pop ⟨_, e, rfl⟩ F.entry_list_pop (F.args_list_pop_1 _) (MeetsSeq.list_pop_last l its.toArray n u hy' (by rw [List.size_toArray]; omega)) ⟨e, ?_⟩
  refine ⟨y, _, I.lset (its' := its.dropLast) hH e ?_ r.dropLast ?_, ru, q⟩
  · show its.toArray.eraseIdxIfInBounds (its.toArray.size - 1) = its.dropLast.toArray
    rw [List.size_toArray, List.eraseIdxIfInBounds_toArray, erase_last]
  · rw [List.length_dropLast]
    omega
end
section
variable {prog : Program} {w : World} {A : Around} {E : Value → Shared → Prop} {s : Shared}
end
section
variable {X : Cx}
end
end L2
namespace Att
open PySem PySem.W PySem.Calls PyProof.Rows
theorem ints_of_wellAll {P : Params} {h : Heap} : ∀ (ns : List Int) (vs : List Value), WellAll P h vs (ns.map WData.int) → IntsAre vs ns := by
  intro ns
  induction ns with
  | nil =>
    intro vs w
    rw [List.map_nil] at w
    cases w
    exact .nil
  | cons n ns ih =>
    intro vs w
    rw [List.map_cons] at w
    cases w with
    | cons a b =>
      cases a
      exact .cons _ _ (ih _ b)
theorem script_of {l : OpenLaw} {n : Nat} (hn : l.most = some n) {P : Params} {h : Heap} {args : List WData} {vals : List Value}
    (hpre : l.row.toRowW.claim.pre args = true) (hwl : WellAll P h vals args) :
    ∃ a vs ns, vals = [Value.ref a] ∧ args = [WData.list (ns.map WData.int)] ∧ h.get? a = some { cls := .type "list", data := .seq vs.toArray } ∧ IntsAre vs ns ∧ ns.length ≤ n := by
  have hsh : WShape.hasAll [] args [.list .int] = true := (pre_splitW hpre).1
  have hc : l.pre.holds [] { args := args } = true := (pre_splitW hpre).2
  obtain ⟨d, r, rfl, h1, h2⟩ := hasAllW_cons hsh
  obtain rfl := hasAllW_nil h2
  obtain ⟨xs, rfl, h3⟩ := hasW_list h1
  obtain ⟨ns, rfl⟩ := items_int h3
  have hlen : ns.length ≤ n := by
    unfold OpenLaw.pre at hc
    have h4 : (WTm.not (.lt (.lit (.int (n : Int))) (.len (.arg 0)))).holds [] { args := [.list (ns.map .int)] } = true := by
      have h4 := (holds_andW hc).1
      rw [hn] at h4
      exact h4
    have h5 := condW_of h4 (w_not (w_lt w_lit (w_len_list (w_arg rfl))))
    rw [List.length_map] at h5
    refine Nat.le_of_not_lt fun q => ?_
    have q' : (n : Int) < ((ns.length : Nat) : Int) := by omega
    first
      | (rw [decide_eq_true q'] at h5; exact absurd h5 (by decide))
      | (simp at h5; omega)
  cases hwl with
  | cons w1 w2 =>
    cases w2
    cases w1 with
    | list ho hall => exact ⟨_, _, ns, rfl, rfl, ho, ints_of_wellAll ns _ hall, hlen⟩
theorem post_true (l : OpenLaw) (args : List WData) : l.row.toRowW.claim.post args (.bool true) args = true :=
  postW_of (r := l.row.toRowW) (X := (true == true))
    (show WShape.has [] (.bool true) .bool = true by first | rfl | decide | simp [WShape.has, WShape.arms, WShape.armsAll])
    (show (WTm.eq .res (.lit (.bool true))).value [] { args := args, res := some (.bool true), after := args } = some (.bool (true == true)) from w_eq_bool (w_res rfl) w_lit) rfl
theorem attach_call {l : OpenLaw} {n : Nat} {q : Program} {loose : List Str} {XP : (Str → Option Value) → Heap → Prop} {YP : World → Heap → Prop} {d : DefRec}
    (hn : l.most = some n) (hdf : d.params.defaults = [])
    (call : ∀ (w : World) (s₀ s₁ : Shared) (mg mb : Str → Option Value) (fa : Addr) (o : Obj) (pm cd doc : Value) (a : Addr) (vs : List Value) (ns : List Int),
      Ground q loose [] XP w s₀ mg mb s₁.heap → YP w s₁.heap →
      s₁.heap.get? fa = some o → o.data = .func (docDef d.name d.params d.body d.scope pm cd doc) → s₁.heap.CodeRec cd d.name → mg d.name = some (.ref fa) →
      s₁.heap.get? a = some { cls := .type "list", data := .seq vs.toArray } → IntsAre vs ns → ns.length ≤ n → s₁.gens = #[] →
      codeAny (model l.prog w) callerA (.call (.ref fa) ⟨[.ref a], []⟩) (fun r s' => r = .ok (.ret (.bool true)) ∧ OldK s₁.heap s'.heap ∧ s'.os = s₁.os ∧ AllBare s'.gens) s₁) :
    WalkO q loose XP YP l.row.toRowW d [] (fun f vs => PySem.call f vs) := by
  intro w s₀ s₁ mg mb G Y fa o pm cd doc dV kV ho hd hcd hD hmg hg args vals as hpre hlay hrd hwl hlo
  obtain rfl : dV = .none := Dflts.none hD hdf
  obtain rfl : kV = .none := Dflts.noKw hD
  obtain ⟨a, vs, ns, rfl, rfl, hobj, hints, hlen⟩ := script_of hn hpre hwl
  refine enter_call (codeAny_mono (call w s₀ s₁ mg mb fa o pm cd doc a vs ns G Y ho (fd_plain hd) hcd hmg hobj hints hlen hg) fun r s' hq => ?_)
  obtain ⟨rfl, h2, h3, h4⟩ := hq
  exact ⟨.inl ⟨.bool true, .bool true, [], rfl, fun _ => rfl, .bool true, post_true l _, fun _ => ⟨List.Pairwise.nil, fun _ hm => (nomatch hm)⟩⟩, h2, h3, h4⟩
section
variable {prog : Program} {w : World} {A : Around} {E : Value → Shared → Prop} {s : Shared} {K : Frag}
end
end Att
namespace L2
open PySem PySem.Spec PyProof.Rows
theorem vals_ints : ∀ {vs : List Value} {ns : List Int}, IntsAre vs ns → Vals (ns.map V.int) vs
  | _, _, .nil => .nil
  | _, _, .cons n t h => .cons ⟨t, rfl⟩ (vals_ints h)
def Only (H : Hp) : Prop := ∀ b, H b = none ∨ ∃ o xs, H b = some (.frz o (.lst xs))
theorem law_call {P : Program} {w : World} {K : PySem.W.Frag} {mg mb : Str → Option Value} {CX : CXT} {k : Nat} {fa a : Addr} {fd : FuncData} {x : Str} {sp : Sp} {s₁ : Shared} {vs : List Value} {ns : List Int}
    (KX : K.In s₁.heap) (hns : s₁.heap.Ns mainGlobals mg) (hb : s₁.heap.Ns builtinsNs mb) (hbb : ∀ x : Str, x ≠ "__name__" → mb x = bootBuiltins x) (hlim : s₁.heap.NoLimit) (hsee : s₁.heap.NoSeer) (hg : s₁.gens = #[])
    (ha : s₁.heap.get? a = some { cls := .type "list", data := .seq vs.toArray }) (hi : IntsAre vs ns) (hl : ns.length ≤ sizeLine) (hr : Room k callerA)
    (F : ∀ base : Heap, K.In base → base.Ns mainGlobals mg → FnOk P w K mg base CX k fa fd [x] sp) (hbind : ∀ (s : Shared) (u : Value), BindsTo s fd ⟨[u], []⟩ [(x, u)])
    (hsp : ∀ H : Hp, Only H → SqL K H a (ns.map V.int) → sp [.ref a] H (fun v _ => v = .bl true) fun _ _ _ => False)
    (hCX : ∀ H e s', CX [] H s₁ (fun _ _ _ => False) e s' → False) :
    codeAny (model P w) callerA (.call (.ref fa) ⟨[.ref a], []⟩) (fun r s' => r = .ok (.ret (.bool true)) ∧ OldK s₁.heap s'.heap ∧ s'.os = s₁.os ∧ AllBare s'.gens) s₁ := by
  have rv := vals_ints hi
  have lenV := hi.length
  -- from an abstract heap in which nothing but the script may be tracked
  have core : ∀ H : Hp, Only H → SqL K H a (ns.map V.int) → HOk P w H s₁.heap → (∀ b, H b ≠ none → b = a) → (H a ≠ none → K.lookup a = none) →
      codeAny (model P w) callerA (.call (.ref fa) ⟨[.ref a], []⟩) (fun r s' => r = .ok (.ret (.bool true)) ∧ OldK s₁.heap s'.heap ∧ s'.os = s₁.os ∧ AllBare s'.gens) s₁ := by
    intro H hO hS hok hA hK
    have base_of : ∀ {b : Addr} {o : Obj}, s₁.heap.get? b = some o → H b = none → (hidT s₁.heap H).get? b = some o := fun e n => hidT_get e n
    have noA : ∀ {b : Addr} {o : Obj} {es : Array DictEntry} {ep : Nat}, s₁.heap.get? b = some o → o.data = .dict es ep → H b = none := fun {b o es ep} e d => by
      cases q : H b with
      | none => rfl
      | some u =>
        have e' : b = a := hA b (by rw [q]; simp)
        subst e'
        rw [ha] at e; cases e
        have d' : Data.seq vs.toArray _ = Data.dict es ep := d
        cases d'
    have noM : ∀ {b : Addr} {o : Obj}, s₁.heap.get? b = some o → o.cls = .type "module" → H b = none := fun {b o} e d => by
      cases q : H b with
      | none => rfl
      | some u =>
        have e' : b = a := hA b (by rw [q]; simp)
        subst e'
        rw [ha] at e; cases e
        have d' : Value.type "list" = Value.type "module" := d
        injection d' with z
        exact absurd z (by decide)
    have nsK : ∀ {b : Addr} {m : Str → Option Value}, s₁.heap.Ns b m → (hidT s₁.heap H).Ns b m := fun {b m} ⟨o, es, ep, e, d, r⟩ => ⟨o, es, ep, base_of e (noA e d), d, r⟩
    have hKb : K.In (hidT s₁.heap H) := fun b o e => base_of (KX b o e) (by
      cases q : H b with
      | none => rfl
      | some u =>
        have e' : b = a := hA b (by rw [q]; simp)
        subst e'
        rw [hK (by rw [q]; simp)] at e; cases e)
    have hM : Mod K mg (hidT s₁.heap H) := ⟨hKb, nsK hns, ⟨mb, nsK hb, hbb⟩, (let ⟨mc, h1, h2⟩ := hlim; ⟨mc, nsK h1, h2⟩), ⟨(let ⟨mc, a1, b1⟩ := hsee.statics; ⟨mc, nsK a1, b1⟩), (let ⟨mc, a1, b1⟩ := hsee.mods; ⟨mc, nsK a1, b1⟩), (let ⟨mc, a1, b1⟩ := hsee.imp; ⟨mc, nsK a1, b1⟩), (let ⟨mg', bm, ob, a1, b1, c1, d1, f1⟩ := hsee.main; ⟨mg', bm, ob, nsK a1, b1, base_of c1 (noM c1 d1), d1, f1⟩)⟩⟩
    have e0 : Env0 P w K mg (hidT s₁.heap H) callerA [] s₁ H := ⟨rfl, hM, fun b o e => of_hidT e, Nat.le_of_eq (hidT_size _ _), trivial, fun b hb => absurd (show b ∈ ([] : List Addr) from hb) (by simp), hok, .of_eq hg⟩
    refine codeAny_mono ((F _ hKb (nsK hns)).run callerA [] s₁ H ⟨[.ref a], []⟩ [.ref a] [.ref a] _ _ hr e0 (hbind s₁ (.ref a)) (.cons rfl .nil) (hsp H hO hS)) fun r s' h => ?_
    cases r with
    | error e => exact (hCX H e s' h).elim
    | ok fl =>
      cases fl with
      | next => exact False.elim h
      | brk => exact False.elim h
      | cont => exact False.elim h
      | ret u =>
        obtain ⟨v, H', os, bare, un, hok', r', q⟩ := h
        have q' : v = .bl true := q
        subst q'
        obtain rfl : u = Value.bool true := r'
        refine ⟨rfl, OldK.of_keep fun b o e => ?_, os, bare⟩
        cases q : H b with
        | none => exact un.keep b o e q (by intro z; exact absurd (show b ∈ ([] : List Addr) from z) (by simp)) (by simp)
        | some u =>
          rcases hO b with z | ⟨ob, xs, z⟩
          · rw [q] at z; cases z
          · have z2 := un.frzs b ob _ z
            obtain ⟨e1, _⟩ := hok b _ z
            obtain ⟨e2, _⟩ := hok' b _ z2
            rw [e] at e1; cases e1
            exact e2
  cases hk : K.lookup a with
  | some o =>
    -- the script is one of the module's own objects
    have e := KX a o hk
    rw [ha] at e
    cases e
    refine core (fun _ => none) (fun _ => .inl rfl) (.inr ⟨_, vs.toArray, _, hk, rfl, rfl, rfl, by rw [List.size_toArray, lenV]; exact hl, by simpa using rv⟩) (fun b u z => by have z' : (none : Option HO) = some u := z; cases z') (fun b z => absurd rfl z) fun z => absurd rfl z
  | none =>
    refine core (fun b => if b = a then some (.frz { cls := .type "list", data := .seq vs.toArray } (.lst (ns.map V.int))) else none) (fun b => ?_) (.inl (.inr ⟨{ cls := .type "list", data := .seq vs.toArray }, if_pos rfl⟩)) (fun b u z => ?_) (fun b z => ?_) fun _ => hk
    · by_cases hb : b = a
      · exact .inr ⟨_, _, if_pos hb⟩
      · exact .inl (if_neg hb)
    · by_cases hb : b = a
      · have z' := (if_pos hb).symm.trans z
        cases z'
        subst hb
        exact ⟨ha, by rw [List.length_map]; exact hl, vs, _, rv, ha⟩
      · have z' := (if_neg hb).symm.trans z
        cases z'
    · by_cases hb : b = a
      · exact hb
      · exact absurd (if_neg hb) z
end L2
namespace L2
open PySem PySem.Spec PyProof.Rows
abbrev KOf {K : PySem.W.Frag} {h : Heap} (_ : K.In h) : PySem.W.Frag := K
theorem walk_of {l : PySem.W.OpenLaw} {n k : Nat} {q : Program} {loose : List Str} {XP : (Str → Option Value) → Heap → Prop} {YP : World → Heap → Prop} {d : DefRec} {K : Params → PySem.W.Frag} {CX : World → CXT} {sp : World → Sp} {x : Str}
    (hn : l.most = some n) (hn2 : n ≤ sizeLine) (hi : importsNone q = true) (hdf : d.params.defaults = []) (hr : Room k callerA)
    (hY : ∀ (w : World) (h : Heap), YP w h → (K w.params).In h)
    (F : ∀ (w : World) (mg : Str → Option Value) (fa : Addr) (h : Heap), (K w.params).In h → h.Ns mainGlobals mg → mg d.name = some (.ref fa) →
      ∃ fd : FuncData, (∀ (s : Shared) (u : Value), BindsTo s fd ⟨[u], []⟩ [(x, u)]) ∧
        ∀ base : Heap, (K w.params).In base → base.Ns mainGlobals mg → FnOk l.prog w (K w.params) mg base (CX w) k fa fd [x] (sp w))
    (hsp : ∀ (w : World) (H : Hp) (a : Addr) (ns : List Int), ns.length ≤ n → Only H → SqL (K w.params) H a (ns.map V.int) → sp w [.ref a] H (fun v _ => v = .bl true) fun _ _ _ => False)
    (hCX : ∀ (w : World) (H : Hp) (s : Shared) (e : Value) (s' : Shared), CX w [] H s (fun _ _ _ => False) e s' → False) :
    PySem.W.WalkO q loose XP YP l.row.toRowW d [] (fun f vs => PySem.call f vs) := by
  refine Att.attach_call hn hdf fun w s₀ s₁ mg mb fa o pm cd doc a vs ns G Y ho hd hcd hmg hobj hints hlen hg => ?_
  have KX := hY w _ Y
  obtain ⟨fd, hb, hF⟩ := F w mg fa _ KX G.T.g hmg
  exact law_call KX G.T.g G.T.b G.T.builtins G.T.nolimit (G.T.seer hi) hg hobj hints (Nat.le_trans hlen hn2) hr hF hb (fun H hO hS => hsp w H a ns hlen hO hS) fun H e s' => hCX w H s₁ e s'
end L2
namespace L2
open PySem PySem.Spec PyProof.Rows
abbrev CX0 : CXT := fun _ _ _ _ _ _ => False
abbrev E0 : XK := fun _ _ _ => False
theorem pass0 {X : Cx} : Passes CX0 X E0 := fun _ _ _ _ _ _ _ h => h.elim
structure Fun (K : PySem.W.Frag) (x qual : Str) (st : Stmt) (f : Addr) (fd : FuncData) : Prop where
  ex : ∃ (oc : Value) (od : Option Addr) (kV doc pm : Value) (an : Option Addr) (cdv ct : Value) (osl : Array (Option Value)),
    fd = PySem.W.fnOf x qual (defArgs st) (defBody st) (defScope st) .none kV doc pm an cdv ct ∧ K.lookup f = some ⟨oc, od, .func fd, osl⟩ ∧ PySem.W.codeIn K cdv qual = true
  kp : PySem.W.keepIn K (.ref f) = true
section
variable {P : Program} {w : World} {K : PySem.W.Frag} {mg : Str → Option Value} {base : Heap}
theorem Fun.ok {x qual : Str} {st : Stmt} {f : Addr} {fd : FuncData} {N ps : List Str} {k : Nat} {sp : Sp} (F : Fun K x qual st f fd) (S : FnScope N ps (defScope st)) (len : ∀ vs H Q E, sp vs H Q E → vs.length = ps.length)
    (hbody : ∀ (cdv : Value) (A : Around) (outer : List Env) (s : Shared) (H : Hp) (vs : List V) (Q : VK) (E : XK), Room k (A.deeper (envOfC qual (defScope st) s.heap.objs.size f cdv)) → sp vs H Q E →
      ∃ t, PSs (cxOf CX0 P w K mg base N qual (defScope st) f cdv A outer s H E).nox (defBody st) t ∧ t { nx := fun _ H' => Q .non H', rt := Q } (start N vs) H) : FnOk P w K mg base CX0 (k + 1) f fd ps sp := by
  obtain ⟨oc, od, kV, doc, pm, an, cdv, ct, osl, rfl, lk, hcd⟩ := F.ex
  refine fn_of lk hcd S len fun A outer s H vs Q E hr hsp => ?_
  obtain ⟨t, h, q⟩ := hbody cdv A outer s H vs Q E hr hsp
  exact ⟨t, h.nox, q⟩
theorem Fun.binds {x qual : Str} {st : Stmt} {f : Addr} {fd : FuncData} {ps : List Str} (F : Fun K x qual st f fd)
    (h : ∀ (kV doc pm : Value) (an : Option Addr) (cdv ct : Value) (us : List Value), us.length = ps.length → bindArgs (PySem.W.fnOf x qual (defArgs st) (defBody st) (defScope st) .none kV doc pm an cdv ct) ⟨us, []⟩ = pure (ps.zip us)) : Binds K fd ps [] := by
  obtain ⟨oc, od, kV, doc, pm, an, cdv, ct, osl, rfl, lk, hcd⟩ := F.ex
  exact .all (h kV doc pm an cdv ct)
theorem fun_mk {x qual : Str} {st : Stmt} {f : Addr} {oc : Value} {od an : Option Addr} {osl : Array (Option Value)} {kV doc pm cdv ct : Value} (l : K.lookup f = some ⟨oc, od, .func (PySem.W.fnOf x qual (defArgs st) (defBody st) (defScope st) .none kV doc pm an cdv ct), osl⟩)
    (c : PySem.W.codeIn K cdv qual = true) (k : PySem.W.keepIn K (.ref f) = true) : Fun K x qual st f (PySem.W.fnOf x qual (defArgs st) (defBody st) (defScope st) .none kV doc pm an cdv ct) := ⟨⟨oc, od, kV, doc, pm, an, cdv, ct, osl, rfl, l, c⟩, k⟩
end
section
variable {X : Cx}
theorem pv (i : Nat) {x : Str} {pos : Pos} (hN : X.N[i]? = some x := by rfl) (hv : Vis X.env.scope x := by first | exact Or.inl rfl | exact Or.inr (Or.inl rfl) | exact Or.inr (Or.inr rfl)) (hd : (x == ("__debug__" : Str)) = false := by decide)
    (hcd : (x == ("__classdict__" : Str)) = false := by decide) : PE X (.Name x pos) (tVar i) := pe_var hN hv hd hcd
end
theorem iteF {A B : Prop} (h : B) : if false = true then A else B := by
  rw [if_neg Bool.false_ne_true]
  exact h
theorem iteT {A B : Prop} (h : A) : if true = true then A else B := by
  rw [if_pos rfl]
  exact h
def Same (H H' : Hp) : Prop := ∀ b o, H b = some o → H' b = some o
theorem Same.refl (H : Hp) : Same H H := fun _ _ h => h
theorem Same.trans {H H1 H2 : Hp} (a : Same H H1) (b : Same H1 H2) : Same H H2 := fun c o h => b c o (a c o h)
theorem Same.free {H H' : Hp} (e : Same H H') {l : Addr} (h : H' l = Option.none) : H l = Option.none := by
  cases q : H l with
  | none => rfl
  | some o =>
    rw [e l o q] at h
    cases h
theorem Same.seq {K : PySem.W.Frag} {H H' : Hp} {a : Addr} {xs : List V} (e : Same H H') (h : SqL K H a xs) : SqL K H' a xs := by
  rcases h with (h | ⟨o, h⟩) | h
  · exact .inl (.inl (e _ _ h))
  · exact .inl (.inr ⟨o, e _ _ h⟩)
  · exact .inr h
end L2
set_option Elab.async false
set_option linter.all false
namespace My
def G (a b : Int) : Int := ((Int.gcd a b : Nat) : Int)
theorem G_end {a : Int} (ha : 0 ≤ a) : G a 0 = a := by
  show ((Int.gcd a 0 : Nat) : Int) = a
  rw [Int.gcd_zero_right]
  omega
theorem G_turn {a b : Int} (ha : 0 ≤ a) (hb : 0 < b) : G b (Int.fmod a b) = G a b := by
  unfold G
  rw [Int.fmod_eq_emod_of_nonneg a (Int.le_of_lt hb)]
  obtain ⟨m, rfl⟩ := Int.eq_ofNat_of_zero_le ha
  obtain ⟨n, rfl⟩ := Int.eq_ofNat_of_zero_le (Int.le_of_lt hb)
  show ((Nat.gcd (n : Int).natAbs ((m : Int) % (n : Int)).natAbs : Nat) : Int) = ((Nat.gcd (m : Int).natAbs (n : Int).natAbs : Nat) : Int)
  have e : ((m : Int) % (n : Int)).natAbs = m % n := by omega
  rw [e, Int.natAbs_natCast, Int.natAbs_natCast, Nat.gcd_comm m n, Nat.gcd_comm n (m % n), ← Nat.gcd_rec]
theorem G_pos {a b : Int} (hb : 0 < b) : 0 < G a b := by
  have : 0 < Int.gcd a b := Int.gcd_pos_of_ne_zero_right a (by omega)
  unfold G
  omega
theorem num_share {t b : Int} (hb : 0 < b) : Int.fdiv t (G t b) = (Rat.divInt t b).num := by
  rw [Int.fdiv_eq_ediv_of_nonneg _ (Int.le_of_lt (G_pos hb)), Rat.num_divInt, Int.sign_eq_one_of_pos hb, Int.one_mul]
  unfold G
  rw [Int.gcd_comm]
theorem den_share {t b : Int} (hb : 0 < b) : Int.fdiv b (G t b) = ((Rat.divInt t b).den : Int) := by
  rw [Int.fdiv_eq_ediv_of_nonneg _ (Int.le_of_lt (G_pos hb)), Rat.den_divInt, if_neg (show ¬ b = 0 by omega), Int.natCast_ediv, Int.natAbs_of_nonneg (Int.le_of_lt hb)]
  unfold G
  rw [Int.gcd_comm]
theorem den_ne (q : Rat) : (q.den : Int) ≠ 0 := by have := q.den_pos; omega
theorem den_pos' (q : Rat) : (0 : Int) < q.den := by have := q.den_pos; omega
theorem q_add (p q : Rat) : Rat.divInt (p.num * q.den + q.num * p.den) (p.den * q.den) = p + q := by
  rw [← Rat.divInt_add_divInt _ _ (den_ne p) (den_ne q), Rat.num_divInt_den, Rat.num_divInt_den]
theorem q_mul (p q : Rat) : Rat.divInt (p.num * q.num) (p.den * q.den) = p * q := by
  rw [← Rat.divInt_mul_divInt, Rat.num_divInt_den, Rat.num_divInt_den]
theorem q_cross {t b : Int} (hb : 0 < b) : (Rat.divInt t b).num * b = t * (Rat.divInt t b).den := by
  have h := Rat.num_divInt_den (Rat.divInt t b)
  exact (Rat.divInt_eq_divInt_iff (den_ne _) (by omega)).mp h
theorem q_num_nn {q : Rat} (h : 0 ≤ q) : 0 ≤ q.num := Rat.num_nonneg.mpr h
theorem q_inj {p q : Rat} (h1 : p.num = q.num) (h2 : (p.den : Int) = q.den) : p = q := Rat.ext h1 (by omega)
end My
set_option Elab.async false
set_option linter.all false
namespace My
theorem mul_num (p q : Rat) : (p * q).num = p.num / ((p.num.natAbs.gcd q.den : Nat) : Int) * (q.num / ((q.num.natAbs.gcd p.den : Nat) : Int)) := by
  show (Rat.mul p q).num = _
  unfold Rat.mul
  simp only [Int.divExact_eq_ediv]
theorem mul_den (p q : Rat) : (p * q).den = q.den / p.num.natAbs.gcd q.den * (p.den / q.num.natAbs.gcd p.den) := by
  show (Rat.mul p q).den = _
  unfold Rat.mul
  simp only [Nat.divExact_eq_div, Nat.mul_comm]
theorem gcd_sum {n1 d1 n2 d2 : Nat} (h1 : Nat.Coprime n1 d1) (h2 : Nat.Coprime n2 d2) (p1 : 0 < d1) (p2 : 0 < d2) :
    Nat.gcd (n1 * d2 + n2 * d1) (d1 * d2) = Nat.gcd d1 d2 * Nat.gcd (n1 * (d2 / Nat.gcd d1 d2) + n2 * (d1 / Nat.gcd d1 d2)) (Nat.gcd d1 d2) := by
  have g0 : 0 < Nat.gcd d1 d2 := Nat.gcd_pos_of_pos_left _ p1
  generalize hg : Nat.gcd d1 d2 = g at *
  obtain ⟨e1, rfl⟩ : g ∣ d1 := hg ▸ Nat.gcd_dvd_left _ _
  obtain ⟨e2, rfl⟩ : g ∣ d2 := hg ▸ Nat.gcd_dvd_right _ _
  have ce : Nat.Coprime e1 e2 := by
    rw [Nat.gcd_mul_left] at hg
    exact Nat.eq_of_mul_eq_mul_left g0 (by rw [hg, Nat.mul_one])
  rw [Nat.mul_div_cancel_left _ g0, Nat.mul_div_cancel_left _ g0]
  have a1 : Nat.Coprime e1 (n1 * e2 + n2 * e1) := by
    show Nat.gcd e1 (n1 * e2 + n2 * e1) = 1
    rw [Nat.mul_comm n2 e1, Nat.gcd_add_mul_left_right]
    exact Nat.Coprime.mul_right ((h1.coprime_dvd_right ⟨g, Nat.mul_comm _ _⟩).symm) ce
  have a2 : Nat.Coprime e2 (n1 * e2 + n2 * e1) := by
    show Nat.gcd e2 (n1 * e2 + n2 * e1) = 1
    rw [Nat.add_comm, Nat.mul_comm n1 e2, Nat.gcd_add_mul_left_right]
    exact Nat.Coprime.mul_right ((h2.coprime_dvd_right ⟨g, Nat.mul_comm _ _⟩).symm) ce.symm
  rw [show n1 * (g * e2) + n2 * (g * e1) = g * (n1 * e2 + n2 * e1) by grind, show g * e1 * (g * e2) = g * (e1 * (e2 * g)) by grind, Nat.gcd_mul_left, a1.gcd_mul_left_cancel_right, a2.gcd_mul_left_cancel_right]
theorem add_num {p q : Rat} (hp : 0 ≤ p.num) (hq : 0 ≤ q.num) : (p + q).num = (p.num * (q.den / G p.den q.den) + q.num * (p.den / G p.den q.den)) / G (p.num * (q.den / G p.den q.den) + q.num * (p.den / G p.den q.den)) (G p.den q.den) ∧
    ((p + q).den : Int) = p.den / G p.den q.den * (q.den / G (p.num * (q.den / G p.den q.den) + q.num * (p.den / G p.den q.den)) (G p.den q.den)) := by
  obtain ⟨n1, e1⟩ := Int.eq_ofNat_of_zero_le hp
  obtain ⟨n2, e2⟩ := Int.eq_ofNat_of_zero_le hq
  have c1 : Nat.Coprime n1 p.den := by have := p.reduced; rw [e1] at this; exact this
  have c2 : Nat.Coprime n2 q.den := by have := q.reduced; rw [e2] at this; exact this
  have d1 := p.den_pos
  have d2 := q.den_pos
  rw [Rat.num_add, Rat.den_add, e1, e2]
  generalize p.den = b1 at *
  generalize q.den = b2 at *
  have gg := gcd_sum c1 c2 d1 d2
  have g0 : 0 < Nat.gcd b1 b2 := Nat.gcd_pos_of_pos_left _ d1
  have hG : G (b1 : Int) b2 = ((Nat.gcd b1 b2 : Nat) : Int) := rfl
  have hN : ((n1 : Int) * b2 + n2 * b1) = ((n1 * b2 + n2 * b1 : Nat) : Int) := by push_cast; rfl
  have ht : (n1 : Int) * ((b2 : Int) / G b1 b2) + n2 * ((b1 : Int) / G b1 b2) = ((n1 * (b2 / Nat.gcd b1 b2) + n2 * (b1 / Nat.gcd b1 b2) : Nat) : Int) := by rw [hG]; push_cast; rfl
  rw [ht, hG]
  rw [hN, Int.natAbs_natCast, gg]
  generalize hgv : Nat.gcd b1 b2 = g at *
  obtain ⟨e1', rfl⟩ : g ∣ b1 := hgv ▸ Nat.gcd_dvd_left _ _
  obtain ⟨e2', rfl⟩ : g ∣ b2 := hgv ▸ Nat.gcd_dvd_right _ _
  rw [Nat.mul_div_cancel_left _ g0, Nat.mul_div_cancel_left _ g0]
  generalize hl : Nat.gcd (n1 * e2' + n2 * e1') g = l
  have l0 : 0 < l := hl ▸ Nat.gcd_pos_of_pos_right _ g0
  have hGl : G ((n1 * e2' + n2 * e1' : Nat) : Int) (g : Int) = (l : Int) := by rw [← hl]; rfl
  obtain ⟨m, hm⟩ : l ∣ g := hl ▸ Nat.gcd_dvd_right _ _
  rw [hGl]
  constructor
  · rw [show n1 * (g * e2') + n2 * (g * e1') = g * (n1 * e2' + n2 * e1') by grind, ← Int.natCast_ediv, ← Int.natCast_ediv, Nat.mul_div_mul_left _ _ g0]
  · subst hm
    rw [← Int.natCast_ediv, ← Int.natCast_ediv, ← Int.natCast_mul]
    congr 1
    rw [Nat.mul_div_cancel_left _ g0, show l * m * e1' * (l * m * e2') = (l * m * l) * (e1' * (m * e2')) by grind, Nat.mul_div_cancel_left _ (Nat.mul_pos g0 l0), show l * m * e2' = l * (m * e2') by grind, Nat.mul_div_cancel_left _ l0]
end My
set_option Elab.async false
set_option linter.all false
set_option maxRecDepth 100000
set_option maxHeartbeats 4000000
namespace L2
open PySem PySem.Spec PyProof.Rows
section
variable {P : Program} {w : World} {H : Hp} {h : Heap} {a : Addr} {o : HO}
end
section
variable {P : Program} {w : World} {outer : List Env} {H H' : Hp} {s s' : Shared} {ea : Addr} {cls : Value} {B : Heap}
end
section
variable {X : Cx} {pins : List (Addr × Obj)} {σ : St} {H : Hp} {s : Shared}
end
section
variable {P : Program} {w : World} {K : PySem.W.Frag} {mg : Str → Option Value} {base : Heap} {N : List Str} {qual : Str} {scope : Scope} {f : Addr} {cd : Value} {A : Around} {outer : List Env} {s : Shared} {H : Hp} {E : XK} {CX : CXT}
end
end L2
set_option Elab.async false
set_option linter.all false
set_option maxRecDepth 100000
set_option maxHeartbeats 4000000
namespace L2
open PySem PySem.Spec PyProof.Rows
section
variable {X : Cx}
end
section
variable {X : Cx}
end
def xobj (a : Addr) (cls : Value) : HO := .ext fun h => ∃ o vs, h.get? a = some o ∧ o.cls = cls ∧ o.data = .fields vs
section
variable {X : Cx} {pins : List (Addr × Obj)} {σ : St} {H : Hp} {s : Shared}
end
end L2
set_option Elab.async false
set_option linter.all false
set_option maxRecDepth 100000
set_option maxHeartbeats 4000000
namespace L2
open PySem PySem.Spec PyProof.Rows
section
variable {X : Cx} {pins : List (Addr × Obj)} {σ : St} {H : Hp} {s : Shared}
end
section
variable {X : Cx}
end
end L2
set_option Elab.async false
set_option linter.all false
set_option maxRecDepth 100000
set_option maxHeartbeats 4000000
namespace L2
open PySem PySem.Spec PySem.Calls PyProof.Rows PySem.W PySem.Builtin PySem.Builtin.ObjectAttr PySem.Builtin.Getset_descriptor
section
variable {prog : Program} {w : World} {A : Around} {E : Value → Shared → Prop} {K : PySem.W.Frag} {x C : Addr} {h : Heap} {g : Array GenState} {d : Drawn} {t : Nat} {os : OsState}
end
end L2
set_option Elab.async false
set_option linter.all false
set_option maxRecDepth 100000
set_option maxHeartbeats 4000000
namespace L2
open PySem PySem.Spec PySem.Calls PyProof.Rows PySem.W
def cV : V → Value
  | .ref a => .ref a
  | .ty n => .type n
  | _ => .none
theorem rel_cV {c : V} {u : Value} (r : RelV c u) (h : cV c ≠ .none) : u = cV c := by
  cases c <;> first | exact r | exact absurd rfl h
section
variable {X : Cx}
theorem op_mulI : OpR X (binaryOp .Mult) (rI IntMulOk fun i j => .int (i * j)) := opI fun _ _ _ _ _ _ _ hc q => mul_int q hc
end
structure Pyl (X : Cx) : Prop where
  tree : X.prog.given.tree = none
  fr : ∃ env l, X.stack = env :: l ∧ env.scope.isGenerator = false ∧ env.scope.isCoroutine = false ∧ env.builtins = builtinsNs ∧ env.globals = mainGlobals
  dp : X.A.depth + Builtin.pylongFrames < recursionLimit
theorem Pyl.room {X : Cx} (p : Pyl X) {pins : List (Addr × Obj)} {σ : St} {H : Hp} {s : Shared} (I : Inv X pins σ H s) : PylongRoom (model X.prog X.w) X.A s := by
  obtain ⟨env, l, h1, h2, h3, h4, h5⟩ := p.fr
  exact PylongRoom.of I.nolimit p.dp (SeerAt.of (I.ok.mod.seer.keeps I.bk) p.tree (I.ok.frames.trans (congrArg some h1)) h2 h3 h4 h5)
section
variable {X : Cx}
theorem op_fdivP (p : Pyl X) : OpR X (binaryOp .FloorDiv) (rI (fun _ j => j ≠ 0) fun i j => .int (i.fdiv j)) := by
  intro pins s σ H x y v u Q I rx ry h
  obtain ⟨i, j, rfl, rfl, hc, q⟩ := h
  obtain ⟨t, rfl⟩ := rx
  obtain ⟨t', rfl⟩ := ry
  exact floordiv_int hc ⟨.int (i.fdiv j), H, I.tok _, ⟨_, rfl⟩, q⟩ (Or.inr (p.room I))
end
end L2
set_option Elab.async false
set_option linter.all false
set_option maxRecDepth 100000
set_option maxHeartbeats 4000000
namespace L2
open PySem PySem.Spec PySem.Calls PyProof.Rows
def DefK (K : PySem.W.Frag) (mg : Str → Option Value) (x : Str) (st : Stmt) (ps : List Str) : Prop := ∃ f fd, Fun K x x st f fd ∧ mg x = some (.ref f) ∧ Binds K fd ps []
def OkF (P : Program) (w : World) (K : PySem.W.Frag) (mg : Str → Option Value) (base : Heap) (CX : CXT) (k : Nat) (x : Str) (ps : List Str) (sp : Sp) : Prop :=
  ∃ f fd, FnOk P w K mg base CX k f fd ps sp ∧ mg x = some (.ref f) ∧ PySem.W.keepIn K (.ref f) = true ∧ Binds K fd ps []
theorem def_mk {K : PySem.W.Frag} {h : Heap} {mg : Str → Option Value} (X : K.In h) (G : h.Ns mainGlobals mg) {x : Str} {st : Stmt} (ps : List Str) {f : Addr} {oc : Value} {od an : Option Addr} {osl : Array (Option Value)} {kV doc pm cdv ct : Value}
    (a : PySem.W.nsIn K mainGlobals x = some (some (.ref f))) (l : K.lookup f = some ⟨oc, od, .func (PySem.W.fnOf x x (defArgs st) (defBody st) (defScope st) .none kV doc pm an cdv ct), osl⟩)
    (c : PySem.W.codeIn K cdv x = true) (k : PySem.W.keepIn K (.ref f) = true)
    (hb : ∀ (kV doc pm : Value) (an : Option Addr) (cdv ct : Value) (us : List Value), us.length = ps.length → bindArgs (PySem.W.fnOf x x (defArgs st) (defBody st) (defScope st) .none kV doc pm an cdv ct) ⟨us, []⟩ = pure (ps.zip us)) : DefK K mg x st ps :=
  have F := fun_mk (st := st) l c k
  ⟨f, _, F, PySem.W.mg_of X G a, F.binds hb⟩
section
variable {P : Program} {w : World} {K : PySem.W.Frag} {mg : Str → Option Value} {base : Heap}
theorem DefK.ok {x : Str} {st : Stmt} {N ps : List Str} {k : Nat} {sp : Sp} (d : DefK K mg x st ps) (S : FnScope N ps (defScope st)) (len : ∀ vs H Q E, sp vs H Q E → vs.length = ps.length)
    (hbody : ∀ (f : Addr) (cdv : Value) (A : Around) (outer : List Env) (s : Shared) (H : Hp) (vs : List V) (Q : VK) (E : XK), Room k (A.deeper (envOfC x (defScope st) s.heap.objs.size f cdv)) → sp vs H Q E →
      ∃ t, PSs (cxOf CX0 P w K mg base N x (defScope st) f cdv A outer s H E).nox (defBody st) t ∧ t { nx := fun _ H' => Q .non H', rt := Q } (start N vs) H) : OkF P w K mg base CX0 (k + 1) x ps sp := by
  obtain ⟨f, fd, F, m, b⟩ := d
  exact ⟨f, fd, F.ok S len fun cdv A outer s H vs Q E hr h => hbody f cdv A outer s H vs Q E hr h, m, F.kp, b⟩
end
section
variable {X : Cx} {x : Str} {ps : List Str} {sp : Sp} {k : Nat} {p pos : Pos} {e : Expr} {es : List Expr} {t : TA}
theorem pe_fn (o : OkF X.prog X.w X.K X.mg X.base CX0 k x ps sp) (hr : Room k X.A) (hg : Gl X x) (ha : PA X (e :: es) t) (hdb : (x == ("__debug__" : Str)) = false := by decide)
    (he : starEach (e :: es) X.env = (false, eval e X.env) :: starEach es X.env := by rfl) (hpl : (backTo pos (starEach es X.env)).any (·.1) = false := by rfl) : PE X (.Call (.Name x p) (e :: es) [] pos) (tCall sp [] E0 t) := by
  obtain ⟨f, fd, F, m, kp, b⟩ := o
  exact pe_call F hr hg m kp b .nil pass0 ha hdb he hpl
end
theorem pyl_cx {CX : CXT} {P : Program} {w : World} {K : PySem.W.Frag} {mg : Str → Option Value} {base : Heap} {N : List Str} {qual : Str} {scope : Scope} {f : Addr} {cd : Value} {A : Around} {outer : List Env} {s : Shared} {H : Hp} {E : XK} {k : Nat}
    (ht : P.given.tree = none) (hg : scope.isGenerator = false) (hc : scope.isCoroutine = false) (hr : Room k (A.deeper (envOfC qual scope s.heap.objs.size f cd))) (hk : 32 ≤ k) :
    Pyl (cxOf CX P w K mg base N qual scope f cd A outer s H E) :=
  ⟨ht, ⟨_, _, rfl, hg, hc, rfl, rfl⟩, by have := hr.dp; show (A.deeper _).depth + 100 < _; omega⟩
theorem Pyl.nox {X : Cx} (p : Pyl X) : Pyl X.nox := ⟨p.tree, p.fr, p.dp⟩
theorem law_mk {P : Program} {w : World} {K : PySem.W.Frag} {h : Heap} {mg : Str → Option Value} {n : Nat} {sp : Sp} (X : K.In h) (G : h.Ns mainGlobals mg) {x y : Str} {st : Stmt} {fa f : Addr} {oc : Value} {od an : Option Addr} {osl : Array (Option Value)} {kV doc pm cdv ct : Value} (hfa : mg x = some (.ref fa))
    (a : PySem.W.nsIn K mainGlobals x = some (some (.ref f))) (l : K.lookup f = some ⟨oc, od, .func (PySem.W.fnOf x x (defArgs st) (defBody st) (defScope st) .none kV doc pm an cdv ct), osl⟩)
    (c : PySem.W.codeIn K cdv x = true) (k : PySem.W.keepIn K (.ref f) = true)
    (hb : ∀ v : Value, bindArgs (PySem.W.fnOf x x (defArgs st) (defBody st) (defScope st) .none kV doc pm an cdv ct) ⟨[v], []⟩ = pure [(y, v)])
    (ok : ∀ (fd : FuncData) (base : Heap), K.In base → base.Ns mainGlobals mg → Fun K x x st fa fd → FnOk P w K mg base CX0 n fa fd [y] sp) :
    ∃ fd : FuncData, (∀ (s : Shared) (u : Value), BindsTo s fd ⟨[u], []⟩ [(y, u)]) ∧ ∀ base : Heap, K.In base → base.Ns mainGlobals mg → FnOk P w K mg base CX0 n fa fd [y] sp := by
  have e := hfa.symm.trans (PySem.W.mg_of X G a)
  cases e
  exact ⟨_, fun s u => .of_eq (hb u), fun base kb nb => ok _ base kb nb (fun_mk (st := st) l c k)⟩
end L2
set_option Elab.async false
set_option linter.all false
set_option maxRecDepth 100000
set_option maxHeartbeats 4000000
namespace L2
open PySem PySem.Spec PySem.Calls PyProof.Rows
def capsOf : List (Str × NameKind) → List (Str × Addr) → List (Str × Addr) → List (Str × Addr)
  | [], _, acc => acc
  | (n, k) :: r, cells, acc => if k == .free then capsOf r cells ((n, (cells.lookup n).getD 0) :: acc) else capsOf r cells acc
theorem capsOf_sub {cells : List (Str × Addr)} {x : Str} {c : Addr} : ∀ {names : List (Str × NameKind)} {acc : List (Str × Addr)}, (∀ y ∈ names, y.2 = .free → (cells.lookup y.1).isSome = true) → (capsOf names cells acc).lookup x = some c →
    acc.lookup x = some c ∨ cells.lookup x = some c
  | [], _, _, h => .inl h
  | (n, k) :: r, acc, hf, h => by
    have hr : ∀ y ∈ r, y.2 = .free → (cells.lookup y.1).isSome = true := fun y hy => hf y (List.mem_cons_of_mem _ hy)
    unfold capsOf at h
    by_cases hk : (k == NameKind.free) = true
    · rw [if_pos hk] at h
      rcases capsOf_sub hr h with q | q
      · by_cases hx : (x == n) = true
        · rw [List.lookup_cons, hx] at q
          have e : x = n := beq_iff_eq.mp hx
          subst e
          have z := hf (x, k) (by simp) (beq_iff_eq.mp hk)
          obtain ⟨a, ha⟩ := Option.isSome_iff_exists.mp z
          have ha' : cells.lookup x = some a := ha
          rw [ha'] at q
          right
          rw [ha']
          exact q
        · rw [List.lookup_cons, Bool.eq_false_iff.mpr hx] at q
          exact .inl q
      · exact .inr q
    · rw [if_neg hk] at h
      exact capsOf_sub hr h
theorem capsOf_acc {cells : List (Str × Addr)} {x : Str} : ∀ {names : List (Str × NameKind)} {acc : List (Str × Addr)}, (∃ c, acc.lookup x = some c) → ∃ c, (capsOf names cells acc).lookup x = some c
  | [], _, h => h
  | (n, k) :: r, acc, ⟨c, h⟩ => by
    unfold capsOf
    by_cases hk : (k == NameKind.free) = true
    · rw [if_pos hk]
      refine capsOf_acc ?_
      by_cases hx : (x == n) = true
      · exact ⟨_, by rw [List.lookup_cons, hx]⟩
      · exact ⟨c, by rw [List.lookup_cons, Bool.eq_false_iff.mpr hx]; exact h⟩
    · rw [if_neg hk]
      exact capsOf_acc ⟨c, h⟩
theorem capsOf_has {cells : List (Str × Addr)} {x : Str} : ∀ {names : List (Str × NameKind)} {acc : List (Str × Addr)}, (x, NameKind.free) ∈ names → ∃ c, (capsOf names cells acc).lookup x = some c
  | (n, k) :: r, acc, h => by
    unfold capsOf
    rcases List.mem_cons.mp h with e | h
    · cases e
      rw [if_pos (by decide)]
      exact capsOf_acc ⟨_, by rw [List.lookup_cons, beq_self_eq_true]⟩
    · by_cases hk : (k == NameKind.free) = true
      · rw [if_pos hk]; exact capsOf_has h
      · rw [if_neg hk]; exact capsOf_has h
theorem closure_loop {env : Env} : ∀ (names : List (Str × NameKind)) (acc : List (Str × Addr)), (∀ y ∈ names, y.2 = .free → (env.cells.lookup y.1).isSome = true) →
    (forIn names acc fun (y : Str × NameKind) (r : List (Str × Addr)) => if (y.2 == NameKind.free) = true then (do let a ← cellOf env y.1; pure (ForInStep.yield ((y.1, a) :: r))) else (pure (ForInStep.yield r) : Sem (ForInStep (List (Str × Addr))))) = pure (capsOf names env.cells acc)
  | [], acc, _ => rfl
  | (n, k) :: r, acc, hf => by
    have hr : ∀ y ∈ r, y.2 = .free → (env.cells.lookup y.1).isSome = true := fun y hy => hf y (List.mem_cons_of_mem _ hy)
    rw [List.forIn_cons]
    unfold capsOf
    by_cases hk : (k == NameKind.free) = true
    · obtain ⟨a, ha⟩ := Option.isSome_iff_exists.mp (hf (n, k) (by simp) (beq_iff_eq.mp hk))
      have ha' : env.cells.lookup n = some a := ha
      rw [if_pos hk]
      dsimp only
      rw [if_pos hk, ha']
      have e : cellOf env n = pure a := by unfold cellOf; rw [ha']
      rw [e]
      exact closure_loop r _ hr
    · rw [if_neg hk, if_neg hk]
      exact closure_loop r _ hr
theorem closure_caps {sc : Scope} {env : Env} (hf : ∀ y ∈ sc.names, y.2 = .free → (env.cells.lookup y.1).isSome = true) : closureFor sc env = pure (capsOf sc.names env.cells []) := by
  unfold closureFor
  have h := closure_loop (env := env) sc.names [] hf
  dsimp only
  have e := congrArg (fun t : Sem (List (Str × Addr)) => t >>= fun r => pure r) h
  exact e
end L2
set_option Elab.async false
set_option linter.all false
set_option maxRecDepth 100000
set_option maxHeartbeats 4000000
namespace L2
open PySem PySem.Spec PySem.Calls PyProof.Rows
structure CArg where
  C : Addr
  s₀ : Shared
  H₀ : Hp
  fp : List Addr
def Cx.comp (X : Cx) (sc : Scope) (N : List Str) (c : CArg) : Cx :=
  { X with N := N, s₀ := c.s₀, H₀ := c.H₀, env := compEnvC sc (capsOf sc.names X.env.cells []) c.C X.env, outer := X.stack, stack := X.stack, ex := c.fp, fn := fun _ => false, pn := [], xe := fun _ _ => False }
structure CompOk (SX sc : Scope) (XN N : List Str) (nt : Nat) (caps : List Nat) : Prop where
  kind : sc.kind = .function
  nocell : ∀ y ∈ sc.names, y.2 ≠ .cell
  loc : ∀ y ∈ sc.names, y.2 = .local → sc.names.lookup y.1 = some .local
  free : ∀ y ∈ sc.names, y.2 = .free → SX.names.lookup y.1 = some .cell ∨ SX.names.lookup y.1 = some .free
  len : N.length = nt + caps.length
  cap : ((List.range caps.length).all fun j => match N[nt + j]?, XN[caps.getD j 0]? with
    | some x, some y => x == y && sc.names.lookup x == some .free
    | _, _ => false) = true
theorem mem_lookup {names : List (Str × NameKind)} {x : Str} {k : NameKind} (h : names.lookup x = some k) : (x, k) ∈ names := PySem.mem_of_lookup h
theorem relabel_lookup {env : Env} : ∀ {names : List (Str × NameKind)} {x : Str} {k : NameKind},
    (names.map fun (n, k) => if (k == NameKind.free && env.scope.kind == .function && env.kindOf n == some .cell) = true then (n, NameKind.cell) else (n, k)).lookup x = some k → names.lookup x = some k ∨ (k = .cell ∧ names.lookup x = some .free)
  | [], _, _, h => by simp at h
  | (n, k0) :: r, x, k, h => by
    rw [List.map_cons] at h
    by_cases hx : (x == n) = true
    · by_cases hc : (k0 == NameKind.free && env.scope.kind == .function && env.kindOf n == some .cell) = true
      · dsimp only at h
        rw [if_pos hc, List.lookup_cons, hx] at h
        cases h
        right
        refine ⟨rfl, ?_⟩
        rw [List.lookup_cons, hx]
        simp only [Bool.and_eq_true, beq_iff_eq] at hc
        rw [hc.1.1]
      · dsimp only at h
        rw [if_neg hc, List.lookup_cons, hx] at h
        left
        rw [List.lookup_cons, hx]
        exact h
    · have hx' := Bool.eq_false_iff.mpr hx
      have e : ∀ q : Str × NameKind, q.1 = n → List.lookup x (q :: (r.map fun (n, k) => if (k == NameKind.free && env.scope.kind == .function && env.kindOf n == some .cell) = true then (n, NameKind.cell) else (n, k))) = List.lookup x (r.map fun (n, k) => if (k == NameKind.free && env.scope.kind == .function && env.kindOf n == some .cell) = true then (n, NameKind.cell) else (n, k)) := by
        intro q hq
        obtain ⟨a, b⟩ := q
        dsimp only at hq
        subst hq
        rw [List.lookup_cons, hx']
      rw [e _ (by dsimp only; split <;> rfl)] at h
      rcases relabel_lookup h with z | z
      · left; rw [List.lookup_cons, hx']; exact z
      · right; refine ⟨z.1, ?_⟩; rw [List.lookup_cons, hx']; exact z.2
theorem relabel_free {env : Env} : ∀ {names : List (Str × NameKind)} {x : Str}, names.lookup x = some .free →
    (names.map fun (n, k) => if (k == NameKind.free && env.scope.kind == .function && env.kindOf n == some .cell) = true then (n, NameKind.cell) else (n, k)).lookup x = some .cell ∨
    (names.map fun (n, k) => if (k == NameKind.free && env.scope.kind == .function && env.kindOf n == some .cell) = true then (n, NameKind.cell) else (n, k)).lookup x = some .free
  | [], _, h => by simp at h
  | (n, k0) :: r, x, h => by
    rw [List.map_cons]
    by_cases hx : (x == n) = true
    · rw [List.lookup_cons, hx] at h
      cases h
      dsimp only
      by_cases hc : (NameKind.free == NameKind.free && env.scope.kind == .function && env.kindOf n == some .cell) = true
      · left; rw [if_pos hc, List.lookup_cons, hx]
      · right; rw [if_neg hc, List.lookup_cons, hx]
    · have hx' := Bool.eq_false_iff.mpr hx
      rw [List.lookup_cons, hx'] at h
      dsimp only
      split
      · rw [List.lookup_cons, hx']; exact relabel_free h
      · rw [List.lookup_cons, hx']; exact relabel_free h
theorem comp_loop {prog : Program} {w : World} {A : Around} {R : Result → Shared → Prop} {s : Shared} {elt target iter : Expr} {ifs : List Expr} {scope : Scope} {pos : Pos} {it acc : Value} {env : Env} (J : Nat → Shared → Prop)
    (turn : ∀ n s, J n s → wpAny (model prog w) A (pyNext it) (fun r s₁ => match r with
      | none => R (.ok .next) s₁
      | some v => wpAny (model prog w) A (letOwnedTupleGo target it v) (fun _ s1' => wpAny (model prog w) A (assign target env v) (fun _ s₂ =>
          wpAny (model prog w) A (forIn ifs true fun c r => if r = true then do let ok ← isTrue c env (eval c env); pure (ForInStep.yield ok) else pure (ForInStep.yield r)) (fun ok s₃ =>
            if ok = true then wpAny (model prog w) A (eval elt env) (fun x s₄ => wpAny (model prog w) A (call (.builtin "list.append") [acc, x]) (fun _ s₅ => ∃ m, m < n ∧ J m s₅) (fun _ _ => False) s₄) (fun _ _ => False) s₃
            else ∃ m, m < n ∧ J m s₃) (fun _ _ => False) s₂) (fun _ _ => False) s1') (fun _ _ => False) s₁) (fun _ _ => False) s)
    (n : Nat) (h : J n s) : codeAny (model prog w) A (.compLoop (.ListComp elt [⟨target, iter, ifs, 0⟩] scope pos) 0 it acc env) R s := by
  refine codeAny_loop rfl J (fun n s hJ => ?_) n h
  show wpAny _ A ((compTurn (.ListComp elt [⟨target, iter, ifs, 0⟩] scope pos) 0 it acc env).onRaise (fun x => do noteFrame x env; theTreesLotGoes x)) _ _ s
  refine wpAny_noted ?_
  rw [compTurn_list]
  refine wpAny_bind (wpAny_standAt (wpAny_bind (wpAny_mono (turn n s hJ) (fun r s₁ h₁ => ?_) fun _ _ z => z.elim)))
  cases r with
  | none => exact wpAny_pure h₁
  | some v =>
    refine wpAny_bind (wpAny_mono h₁ (fun _ s1' h1' => ?_) fun _ _ z => z.elim)
    refine wpAny_bind (wpAny_mono h1' (fun _ s₂ h₂ => ?_) fun _ _ z => z.elim)
    refine wpAny_bind (wpAny_mono h₂ (fun ok s₃ h₃ => ?_) fun _ _ z => z.elim)
    cases ok with
    | false => exact wpAny_pure ⟨rfl, h₃⟩
    | true =>
      refine wpAny_bind (wpAny_bind (wpAny_mono h₃ (fun x s₄ h₄ => ?_) fun _ _ z => z.elim))
      refine wpAny_bind (wpAny_mono h₄ (fun _ s₅ h₅ => ?_) fun _ _ z => z.elim)
      exact wpAny_pure (wpAny_pure ⟨rfl, h₅⟩)
section
variable {X : Cx} {pins : List (Addr × Obj)} {σ : St} {H : Hp} {s : Shared} {sc : Scope} {N XN : List Str} {nt : Nat} {caps : List Nat} {SX : Scope}
def capSt (nt : Nat) (caps : List Nat) (σ : St) : St := List.replicate nt none ++ caps.map fun i => σ.getD i none
theorem CompOk.hf (S : CompOk SX sc XN N nt caps) (I : Inv X pins σ H s) (hX : X.env.scope = SX) : ∀ y ∈ sc.names, y.2 = .free → (X.env.cells.lookup y.1).isSome = true := fun y hy hk => by
  have q := S.free y hy hk
  rw [← hX] at q
  obtain ⟨c, e⟩ := I.ok.has y.1 q
  rw [e]; rfl
theorem Inv.enter (S : CompOk SX sc XN N nt caps) (hX : X.env.scope = SX) (hN : X.N = XN) (I : Inv X pins σ H s) {fp : List Addr} (hf : ∀ b ∈ fp, FpOk X pins H b) (hlt : ∀ b ∈ fp, b < s.heap.objs.size) {h' : Heap} {t' : Nat} {m' : Str → Option Value}
    (hn : h'.Ns s.heap.objs.size m') (hk : ∀ b o, s.heap.get? b = some o → h'.get? b = some o) : Inv (X.comp sc N ⟨s.heap.objs.size, s, H, fp⟩) pins (capSt nt caps σ) H { s with heap := h', toks := t' } := by
  have hfr := S.hf I hX
  have sub : ∀ x c, (capsOf sc.names X.env.cells []).lookup x = some c → X.env.cells.lookup x = some c := fun x c e => by
    rcases capsOf_sub hfr e with q | q
    · cases q
    · exact q
  have frs_lt : ∀ b ∈ frs X.stack, b < s.heap.objs.size := fun b hb => by
    obtain ⟨_, o, e, _⟩ := I.stack.mem hb
    exact Heap.lt_size e
  have cells_lt : ∀ x c, X.env.cells.lookup x = some c → c < s.heap.objs.size := fun x c e => by
    obtain ⟨v, z⟩ := I.cell x c e
    exact z.lt
  have offS : ∀ b, b ≠ X.env.locals → b ∉ X.fs → b ∉ frs X.stack := fun b h1 h2 z => by
    rcases List.mem_cons.mp (I.stkSub b z) with q | q
    · exact h1 q
    · exact h2 q
  have hex : ∀ x, ((relabel sc X.env).names.lookup x = some .cell ∨ (relabel sc X.env).names.lookup x = some .free) → ∃ c, (capsOf sc.names X.env.cells []).lookup x = some c := fun x hx => by
    have fr : sc.names.lookup x = some .free := by
      rcases hx with hx | hx
      · rcases relabel_lookup (names := sc.names) hx with z | z
        · exact absurd rfl (S.nocell _ (mem_lookup z))
        · exact z.2
      · rcases relabel_lookup (names := sc.names) hx with z | z
        · exact z
        · cases z.1
    exact capsOf_has (mem_lookup fr)
  refine ⟨⟨I.ok.mod, S.kind, I.ok.glob, I.ok.blt, Nat.le_refl _, fun x y c e1 e2 => I.ok.inj x y c (sub x c e1) (sub y c e2), hex, fun x c e => (by cases e), I.ok.hd, I.ok.frames, .inl rfl, fun b hb => ?_, fun b o e => I.bs b o e, Nat.le_trans I.ok.bsz I.sz, fun b o e hb => ?_, fun b hb => ?_, I.stack, I.stkFree⟩,
    rfl, I.bare, Un.kept hk, ⟨m', hn, fun i x v e1 e2 e3 => ?_⟩, fun x c e => ?_, I.hok.fresh (Nat.le_refl _), fun x c e => I.freeC x c (sub x c e), fun p hp => ?_, I.hok.kept hk, ?_⟩
  · obtain ⟨f0, f1, f2, f3, f4, f5⟩ := hf b hb
    refine ⟨?_, fun x c e => f4 x c (sub x c e)⟩
    exact Nat.ne_of_lt (hlt b hb)
  · obtain ⟨f0, f1, f2, f3, f4, f5⟩ := hf b hb
    rcases f3 with z | z
    · exact I.ok.noex b o e z
    · exact absurd (Nat.lt_of_lt_of_le (Heap.lt_size e) (Nat.le_trans I.ok.bsz z)) (Nat.lt_irrefl _)
  · obtain ⟨f0, f1, f2, f3, f4, f5⟩ := hf b hb
    exact offS b f1 f2
  · -- a name that is taken over
    unfold capSt at e2
    by_cases hi : i < nt
    · rw [List.getElem?_append_left (by simpa using hi), List.getElem?_replicate] at e2
      split at e2 <;> cases e2
    · rw [List.getElem?_append_right (by simpa using hi), List.length_replicate, List.getElem?_map] at e2
      obtain ⟨j, rfl⟩ : ∃ j, i = nt + j := ⟨i - nt, by omega⟩
      rw [Nat.add_sub_cancel_left] at e2
      cases ec : caps[j]? with
      | none => rw [ec] at e2; cases e2
      | some ci =>
        rw [ec] at e2
        have e2' : σ.getD ci none = some v := by simpa using e2
        have hj : j < caps.length := (List.getElem?_eq_some_iff.mp ec).1
        have q := List.all_eq_true.mp S.cap j (List.mem_range.mpr hj)
        have ed : caps.getD j 0 = ci := by rw [List.getD_eq_getElem?_getD, ec]; rfl
        have e1' : N[nt + j]? = some x := e1
        rw [e1', ed] at q
        cases ex : XN[ci]? with
        | none => rw [ex] at q; cases q
        | some y =>
          rw [ex] at q
          simp only [Bool.and_eq_true, beq_iff_eq] at q
          obtain ⟨rfl, qf⟩ := q
          have eσ : σ[ci]? = some (some v) := by
            rw [List.getD_eq_getElem?_getD] at e2'
            cases z : σ[ci]? with
            | none => rw [z] at e2'; cases e2'
            | some w' => rw [z] at e2'; exact congrArg some e2'
          obtain ⟨m, hm, hl⟩ := I.loc
          have vis := S.free _ (mem_lookup qf) rfl
          rw [← hX] at vis
          obtain ⟨u, r, lk⟩ := hl ci x v (by rw [hN]; exact ex) eσ (.inr vis)
          refine ⟨u, r, .inr ⟨relabel_free qf, ?_⟩⟩
          obtain ⟨c, hc⟩ := capsOf_has (cells := X.env.cells) (acc := []) (mem_lookup qf)
          have hc' := sub x c hc
          rcases lk with ⟨k, _⟩ | ⟨k, c2, ec2, z⟩
          · exfalso
            have k' : X.env.scope.names.lookup x = some .local := k
            dsimp only at vis
            rcases vis with v1 | v1
            · rw [k'] at v1; cases v1
            · rw [k'] at v1; cases v1
          · rw [hc'] at ec2
            cases ec2
            obtain ⟨o, ho, hd⟩ := z
            exact ⟨c, hc, o, hk c o ho, hd⟩
  · obtain ⟨v, o, ho, hd⟩ := I.cell x c (sub x c e)
    exact ⟨v, o, hk c o ho, hd⟩
  · obtain ⟨e, n, ne, nf, d⟩ := I.pin p (List.mem_append_right _ (show p ∈ pins from (List.mem_append.mp hp).elim (fun z => absurd (show p ∈ ([] : List (Addr × Obj)) from z) (by simp)) id))
    exact ⟨hk _ _ e, n, Nat.ne_of_lt (Heap.lt_size e), offS _ ne nf, d⟩
  · unfold capSt
    rw [List.length_append, List.length_replicate, List.length_map]
    exact S.len.symm
end
def tComp (nt : Nat) (caps : List Nat) (wi : TI) (g : CArg → TG) (tc : CArg → TT) (te : CArg → TE) : TE := fun σ H Q => wi σ H fun J H1 => ∀ D, H1 D = none → ∀ c : CArg, ∃ W : Nat → Nat → St → List V → Hp → Prop,
  (∃ m, W 0 m (capSt nt caps σ) [] (upd H1 D (.lst []))) ∧ ∀ i m σ' ys H', W i m σ' ys H' → H' D = some (.lst ys) ∧ ys.length < sizeLine ∧
    ((J.stop i H' ∧ Q (.ref D) H') ∨ (J.go i H' ∧ ∀ x H2, J.yld i H' x H2 → g c x σ' H2 fun σ3 H3 => tc c σ3 H3 fun b H4 => if b = true then te c σ3 H4 fun y H5 => ∃ ys', H5 D = some (.lst ys') ∧ ys'.length < sizeLine ∧ ∃ m', m' < m ∧ W (i + 1) m' σ3 (ys' ++ [y]) (upd H5 D (.lst (ys' ++ [y])))
      else ∃ ys' m', m' < m ∧ W (i + 1) m' σ3 ys' H4))
def tTrue : CArg → TT := fun _ _ H Q => Q true H
section
variable {X : Cx} {tg iter elt : Expr} {ifs : List Expr} {sc SX : Scope} {N XN : List Str} {nt : Nat} {caps : List Nat} {wi : TI} {g : CArg → TG} {tc : CArg → TT} {te : CArg → TE} {pos : Pos}
def PTs (X : Cx) (ifs : List Expr) (t : TT) : Prop := ∀ (pins : List (Addr × Obj)) (s : Shared) (σ : St) (H : Hp) (Q : Bool → Hp → Prop), Inv X pins σ H s → t σ H Q →
  wpAny (model X.prog X.w) X.A (forIn ifs true fun c r => if r = true then do let ok ← isTrue c X.env (eval c X.env); pure (ForInStep.yield ok) else pure (ForInStep.yield r)) (TP X pins σ Q) X.xe s
theorem pts_nil {c : CArg} : PTs X [] (tTrue c) := fun pins s σ H Q I h => wpAny_tests_nil ⟨H, I, h⟩
theorem pts_one {c : Expr} {t : TT} (h : PT X c t) : PTs X [c] t := fun pins s σ H Q I hq => wpAny_tests_one (h pins s σ H Q I hq)
theorem comp_block {pins : List (Addr × Obj)} {σ : St} {H2 : Hp} {s2 : Shared} {it : Addr} {fp : List Addr} {tn : Nat → Heap → Prop} {J : It} {Q : VK} {RR : Value → Addr → Result → Shared → Prop} {E : Value → Shared → Prop}
    (S : CompOk SX sc XN N nt caps) (hX : X.env.scope = SX) (hN : X.N = XN) (hc : X.calm = true) (hg : ∀ c, PG (X.comp sc N c) tg (g c)) (ht : ∀ c, PTs (X.comp sc N c) ifs (tc c)) (he : ∀ c, PE (X.comp sc N c) elt (te c))
    (I2 : Inv X pins σ H2 s2) (T : Turn X.prog X.w X.K tg J fp it tn) (st2 : tn 0 s2.heap) (f2 : ∀ b ∈ fp, FpOk X pins H2 b)
    (h : ∀ D, H2 D = none → ∀ c : CArg, ∃ W : Nat → Nat → St → List V → Hp → Prop,
      (∃ m, W 0 m (capSt nt caps σ) [] (upd H2 D (.lst []))) ∧ ∀ i m σ' ys H', W i m σ' ys H' → H' D = some (.lst ys) ∧ ys.length < sizeLine ∧
      ((J.stop i H' ∧ Q (.ref D) H') ∨ (J.go i H' ∧ ∀ x H2, J.yld i H' x H2 → g c x σ' H2 fun σ3 H3 => tc c σ3 H3 fun b H4 => if b = true then te c σ3 H4 fun y H5 => ∃ ys', H5 D = some (.lst ys') ∧ ys'.length < sizeLine ∧ ∃ m', m' < m ∧ W (i + 1) m' σ3 (ys' ++ [y]) (upd H5 D (.lst (ys' ++ [y])))
        else ∃ ys' m', m' < m ∧ W (i + 1) m' σ3 ys' H4)))
    (hR : ∀ D C s' m H', s'.heap.Ns C m → s2.heap.objs.size < C → Inv X pins σ H' s' → H' C = none → C ≠ X.env.locals → (∀ x c, X.env.cells.lookup x = some c → c ≠ C) → (∀ p ∈ X.pn ++ pins, p.1 ≠ C) → X.s₀.heap.objs.size ≤ C → Q (.ref D) H' → RR (.ref D) C (.ok .next) s') :
    wpAny (model X.prog X.w) X.A (newList []) (fun acc s₃ => wpAny (model X.prog X.w) X.A (newFunctionEnv sc X.env.globals (capsOf sc.names X.env.cells []) [] X.env.qual none .none (some X.env)) (fun cenv s₄ =>
      codeAny (model X.prog X.w) X.A (.compStart (.ListComp elt [⟨tg, iter, ifs, 0⟩] sc pos) 0 (.ref it) acc { cenv with scope := relabel sc X.env }) (RR acc cenv.locals) s₄) E s₃) E s2 := by
  have lt2 : ∀ b ∈ fp, b < s2.heap.objs.size := fun b hb => by
    obtain ⟨o, e, _⟩ := T.obj _ _ st2 b hb
    exact Heap.lt_size e
  have hD0 : H2 s2.heap.objs.size = none := I2.hok.fresh (Nat.le_refl _)
  have I3 : Inv X pins σ (upd H2 s2.heap.objs.size (.lst [])) { s2 with heap := s2.heap.push { cls := .type "list", dict := none, data := .seq ([] : List Value).toArray } } :=
    I2.laid (t' := s2.toks) (fun b u e => Heap.get?_push_of_some _ e) (Nat.le_refl _) ⟨Nat.zero_le _, [], 0, .nil, Heap.get?_push_size _ rfl⟩
  have f3 : ∀ b ∈ fp, FpOk X pins (upd H2 s2.heap.objs.size (.lst [])) b := fun b hb => ⟨by rw [upd_ne (Nat.ne_of_lt (lt2 b hb))]; exact (f2 b hb).1, (f2 b hb).2⟩
  refine wpAny_newObj_type (wpAny_newFunctionEnv S.nocell (by intro y hy; simp at hy) (fun h1 hn1 hs1 => ?_) S.kind)
  dsimp only at hn1 hs1 ⊢
  generalize hg3 : ({ s2 with heap := s2.heap.push { cls := .type "list", dict := none, data := .seq ([] : List Value).toArray } } : Shared) = s3 at I3
  have e3 : s2.heap.push { cls := .type "list", dict := none, data := .seq ([] : List Value).toArray } = s3.heap := by rw [← hg3]
  rw [e3] at hn1 hs1 ⊢
  have lt3 : ∀ b ∈ fp, b < s3.heap.objs.size := fun b hb => by
    rw [← e3, Heap.size_push]
    exact Nat.lt_succ_of_lt (lt2 b hb)
  have hC2 : s2.heap.objs.size < s3.heap.objs.size := by rw [← e3, Heap.size_push]; exact Nat.lt_succ_self _
  have hk : ∀ b o, s3.heap.get? b = some o → h1.get? b = some o := fun b o e => hs1.extBut b o (Nat.ne_of_lt (Heap.lt_size e)) (Heap.get?_push_of_some _ e)
  have I4 := I3.enter S hX hN f3 lt3 (t' := s2.toks + ([] : List (Str × Value)).length) hn1 hk
  have fin : ∀ {s' : Shared} {σ' : St} {H' : Hp}, Inv (X.comp sc N ⟨s3.heap.objs.size, s3, upd H2 s2.heap.objs.size (.lst []), fp⟩) pins σ' H' s' → Q (.ref s2.heap.objs.size) H' → RR (.ref s2.heap.objs.size) s3.heap.objs.size (.ok .next) s' := fun {s' σ' H'} I' q => by
    obtain ⟨m, hm, _⟩ := I'.loc
    refine hR _ _ s' m H' hm hC2 (I3.call' (ch := fp) I'.os I'.base I'.hok I'.bare fun b hb => ?_) I'.free (Nat.ne_of_gt I3.lt) (fun x c e => ?_) (fun p hp => ?_) I3.sz q
    · obtain ⟨g0, g1, g2, g3, g4, g5⟩ := f3 b hb
      exact ⟨g3, g1, g4, g5⟩
    · obtain ⟨v, z⟩ := I3.cell x c e
      exact Nat.ne_of_lt z.lt
    · exact Nat.ne_of_lt (Heap.lt_size (I3.pin p hp).1)
  have subc : ∀ x c, (capsOf sc.names X.env.cells []).lookup x = some c → X.env.cells.lookup x = some c := fun x c e => by
    rcases capsOf_sub (S.hf I3 hX) e with q | q
    · cases q
    · exact q
  obtain ⟨W, ⟨m0, w0⟩, step⟩ := h _ hD0 ⟨s3.heap.objs.size, s3, upd H2 s2.heap.objs.size (.lst []), fp⟩
  have stat : ∀ {H' : Hp}, (∀ b ∈ fp, H' b = none) → ∀ b ∈ fp, FpOk (X.comp sc N ⟨s3.heap.objs.size, s3, upd H2 s2.heap.objs.size (.lst []), fp⟩) pins H' b := fun {H'} hn b hb => by
    obtain ⟨g0, g1, g2, g3, g4, g5⟩ := f3 b hb
    refine ⟨hn b hb, Nat.ne_of_lt (lt3 b hb), fun z => ?_, .inl hb, fun x c e => g4 x c (subc x c e), fun p hp => g5 p (List.mem_append_right _ ((List.mem_append.mp hp).elim (fun z => absurd (show p ∈ ([] : List (Addr × Obj)) from z) (by simp)) id))⟩
    rcases List.mem_cons.mp (I3.stkSub b z) with q | q
    · exact g1 q
    · exact g2 q
  have st4 : tn 0 h1 := T.keep _ _ _ st2 fun b hb o e => hk b o (by rw [← e3]; exact Heap.get?_push_of_some _ e)
  have fr4 : ∀ b ∈ fp, upd H2 s2.heap.objs.size (.lst []) b = none := fun b hb => (f3 b hb).1
  have hs4 : ({ s2 with heap := h1, toks := s2.toks + ([] : List (Str × Value)).length } : Shared) = { s3 with heap := h1, toks := s2.toks + ([] : List (Str × Value)).length } := by rw [← hg3]
  rw [hs4]
  have loop : codeAny (model X.prog X.w) X.A (.compLoop (.ListComp elt [⟨tg, iter, ifs, 0⟩] sc pos) 0 (.ref it) (.ref s2.heap.objs.size) (compEnvC sc (capsOf sc.names X.env.cells []) s3.heap.objs.size X.env)) (RR (.ref s2.heap.objs.size) s3.heap.objs.size)
      { s3 with heap := h1, toks := s2.toks + ([] : List (Str × Value)).length } := by
    refine comp_loop (fun n s' => ∃ i σ' ys H', Inv (X.comp sc N ⟨s3.heap.objs.size, s3, upd H2 s2.heap.objs.size (.lst []), fp⟩) pins σ' H' s' ∧ tn i s'.heap ∧ (∀ b ∈ fp, H' b = none) ∧ W i n σ' ys H') ?_ m0 ⟨0, _, [], _, I4, st4, fr4, w0⟩
    rintro n s' ⟨i, σ', ys, H', I', st', fr', w'⟩
    obtain ⟨hD, hz, alt⟩ := step i n σ' ys H' w'
    rcases alt with ⟨stop, qn⟩ | ⟨go, turn⟩
    · refine thn (T.done (X.comp sc N ⟨s3.heap.objs.size, s3, upd H2 s2.heap.objs.size (.lst []), fp⟩) rfl rfl rfl hc i pins s' σ' H' _ I' (stat fr') st' stop) fun r s4 ⟨hr, J4⟩ => ?_
      subst hr
      exact fin J4 qn
    · refine thn (T.item (X.comp sc N ⟨s3.heap.objs.size, s3, upd H2 s2.heap.objs.size (.lst []), fp⟩) rfl rfl rfl hc i pins s' σ' H' _ I' (stat fr') st' go) fun r s4 ⟨u, hr, h4⟩ => ?_
      subst hr
      refine thn h4 fun _ s5 ⟨x, H5, I5, r5, y5, st5, fr5⟩ => ?_
      have I5' := I5.pinned (stat fr5) (T.obj _ _ st5)
      refine thn (hg _ _ s5 σ' H5 x u _ I5' r5 (turn x H5 y5)) fun _ s6 ⟨σ6, H6, I6, q6⟩ => ?_
      refine thn (ht _ _ s6 σ6 H6 _ I6 q6) fun ok s7 ⟨H7, I7, q7⟩ => ?_
      have again : ∀ {s8 : Shared} {H8 : Hp} {ys8 : List V} {m8 : Nat}, Inv (X.comp sc N ⟨s3.heap.objs.size, s3, upd H2 s2.heap.objs.size (.lst []), fp⟩) (pins ++ pinsAt fp s5.heap) σ6 H8 s8 → m8 < n → W (i + 1) m8 σ6 ys8 H8 →
          ∃ m, m < n ∧ ∃ i σ' ys H', Inv (X.comp sc N ⟨s3.heap.objs.size, s3, upd H2 s2.heap.objs.size (.lst []), fp⟩) pins σ' H' s8 ∧ tn i s8.heap ∧ (∀ b ∈ fp, H' b = none) ∧ W i m σ' ys H' := fun {s8 H8 ys8 m8} I8 hm w8 => by
        refine ⟨m8, hm, i + 1, σ6, ys8, H8, I8.unpinned, T.keep _ _ _ st5 fun b hb o e => (I8.pin (b, o) (List.mem_append_right _ (List.mem_append_right _ (mem_pinsAt hb e)))).1, fun b hb => ?_, w8⟩
        obtain ⟨o, e, d⟩ := T.obj _ _ st5 b hb
        exact (I8.pin (b, o) (List.mem_append_right _ (List.mem_append_right _ (mem_pinsAt hb e)))).2.1
      cases ok with
      | false =>
        obtain ⟨ys8, m8, hm, w8⟩ := q7
        exact again I7 hm w8
      | true =>
        refine thn (he _ _ s7 σ6 H7 _ I7 q7) fun y s8 ⟨v, H8, I8, r8, ys8, e8, z8, m8, hm, w8⟩ => ?_
        refine thn (mt_append (X := X.comp sc N ⟨s3.heap.objs.size, s3, upd H2 s2.heap.objs.size (.lst []), fp⟩) _ s8 σ6 H8 (.ref s2.heap.objs.size) [v] _ [y] (fun _ H9 => H9 = upd H8 s2.heap.objs.size (.lst (ys8 ++ [v]))) I8 rfl (.cons r8 .nil) ⟨_, ys8, v, rfl, rfl, e8, z8, rfl⟩)
          fun _ s9 ⟨_, H9, I9, _, e9⟩ => ?_
        subst e9
        exact again I9 hm w8
  exact codeAny_compStart_list loop (T.self X.A 0 _ _ _ st4 loop)
theorem pe_comp (S : CompOk SX sc XN N nt caps) (hi : PI X tg iter wi) (hg : ∀ c, PG (X.comp sc N c) tg (g c)) (ht : ∀ c, PTs (X.comp sc N c) ifs (tc c)) (he : ∀ c, PE (X.comp sc N c) elt (te c)) (hc : X.calm = true := by rfl) (hX : X.env.scope = SX := by rfl) (hN : X.N = XN := by rfl)
    (hs : ∀ x, foldedSetIterable iter X.env x = pure x := by intro _; rfl) : PE X (.ListComp elt [⟨tg, iter, ifs, 0⟩] sc pos) (tComp nt caps wi g tc te) := by
  intro pins s σ H Q I h
  rw [eval_ListComp]
  refine wpAny_comprehension_free (use := none) rfl hs (closure_caps (S.hf I hX)) S.kind S.loc (thn (hi pins s σ H _ I h) fun v s1 h1 => thn h1 fun itv s2 h2 => ?_)
  obtain ⟨it, fp, tn, J, H2, rfl, I2, T, st2, f2, h2⟩ := h2
  refine comp_block (RR := fun acc C => compPost (model X.prog X.w) X.A X.xe none (EP X pins σ Q) acc C) S hX hN hc hg ht he I2 T st2 f2 h2 fun D C s' m H' hm hC I' hf hL hcl hpn hs0 q => ?_
  refine ⟨m, hm, fun h'' hs'' => ⟨.ref D, H', I'.turned (it := C) (t' := s'.toks) (fun b o hb e => hs''.extBut b o hb e) hf hL (.inr hs0) hcl hpn, rfl, q⟩⟩
theorem ps_comp {y : Str} {py : Pos} {i : Nat} {spos : Pos} (S : CompOk SX sc XN N nt caps) (hnd : X.N.Nodup) (hix : X.N[i]? = some y) (hy : Loc X.env.scope y) (hi : PI X tg iter wi) (hg : ∀ c, PG (X.comp sc N c) tg (g c)) (ht : ∀ c, PTs (X.comp sc N c) ifs (tc c)) (he : ∀ c, PE (X.comp sc N c) elt (te c))
    (hsw : swapsWith (.ListComp elt [⟨tg, iter, ifs, 0⟩] sc pos) (some (.Name y py)) spos.line X.env = pure true := by rfl) (hc : X.calm = true := by rfl) (hX : X.env.scope = SX := by rfl) (hN : X.N = XN := by rfl)
    (hs : ∀ x, foldedSetIterable iter X.env x = pure x := by intro _; rfl) (hf : X.fn y = true ∨ X.env.scope.names.lookup y = some .local := by first | exact .inl rfl | exact .inr rfl) : PS X (.Assign [.Name y py] (.ListComp elt [⟨tg, iter, ifs, 0⟩] sc pos) spos) (tAsg (tComp nt caps wi g tc te) (gName i)) := by
  intro pins s σ H D I h
  rw [exec_Assign_Name_used _ _ _ _ hsw]
  refine wpAny_bind (wpAny_standAt (wpAny_bind ?_))
  show wpAny _ X.A (do let _ ← comprehension (.ListComp elt [⟨tg, iter, ifs, 0⟩] sc pos) sc X.env _ (newList []) false (eval iter X.env) (some (assign (.Name y py) X.env))) _ _ s
  refine wpAny_bind (wpAny_mono (wpAny_comprehension_free (use := some (assign (.Name y py) X.env)) (Q := fun _ s' => SP X pins D .next s') rfl hs (closure_caps (S.hf I hX)) S.kind S.loc (thn (hi pins s σ H _ I h) fun v s1 h1 => thn h1 fun itv s2 h2 => ?_)) (fun _ s' hq => wpAny_pure (wpAny_pure hq)) fun _ _ e => e)
  obtain ⟨it, fp, tn, J, H2, rfl, I2, T, st2, f2, h2⟩ := h2
  refine comp_block (Q := fun x H1 => gName i x σ H1 D.nx) (RR := fun acc C => compPost (model X.prog X.w) X.A X.xe (some (assign (.Name y py) X.env)) (fun _ s' => SP X pins D .next s') acc C) S hX hN hc hg ht he I2 T st2 f2 h2 fun D' C s' m H' hm hC I' hfC hL hcl hpn hs0 q => ?_
  show wpAny _ X.A (assign (.Name y py) X.env (.ref D')) _ _ s'
  refine wpAny_assign_Name (store_ok2 (v := .ref D') I' hnd hix hy rfl (fun s5 I5 hch => ?_) hf)
  obtain ⟨a, sb, ha⟩ := hch
  have hCa : C ≠ a := by
    rcases ha with z | z
    · rw [z]; exact hL
    · exact (hcl _ _ z).symm
  refine ⟨m, hm.sameBut sb hCa, fun h'' hs'' => ⟨σ.set i (some (.ref D')), H', I5.turned (it := C) (t' := s5.toks) (fun b o hb e => hs''.extBut b o hb e) hfC hL (.inr hs0) hcl hpn, q⟩⟩
end
end L2
set_option Elab.async false
set_option linter.all false
set_option maxRecDepth 100000
set_option maxHeartbeats 4000000
namespace L2
open PySem PySem.Spec PySem.Calls PyProof.Rows
section
variable {X : Cx} {pins : List (Addr × Obj)} {σ : St} {H : Hp} {s : Shared}
theorem Inv.drawn {fp : List Addr} {h' : Heap} {t' : Nat} {ds : List V} {us : List Value} {n : Nat} (I : Inv X pins σ H s) (hf : ∀ b ∈ fp, FpOk X pins H b) (kp : ∀ b o, b ∉ fp → s.heap.get? b = some o → h'.get? b = some o)
    (new : h'.get? s.heap.objs.size = some { cls := .type "tuple", data := .seq us.toArray n }) (r : Vals ds us) (hz : ds.length ≤ sizeLine) : Inv X pins σ (upd H s.heap.objs.size (.tup ds)) { s with heap := h', toks := t' } := by
  have hT : H s.heap.objs.size = none := I.hok.fresh (Nat.le_refl _)
  have nf : ∀ b u, H b = some u → b ∉ fp := fun b u e hb => by rw [(hf b hb).1] at e; cases e
  refine I.call (g' := s.gens) (d' := s.drawn) (ch := fp) ⟨fun b o e n hb hx => kp b o hx e, fun b o e n hb hx => ⟨o.slots, kp b o hx e⟩, fun b o e n hx => ?_, fun b o e hx => ⟨o, kp b o hx e⟩, fun b xs q => ?_, fun b o u q => ?_, fun b ps q => ?_⟩ ?_ I.bare (fun b hb => ?_)
  · rw [upd_ne (Nat.ne_of_lt (Heap.lt_size e))]; exact n
  · rw [upd_ne (ne_of_none q hT)]; exact q
  · rw [upd_ne (ne_of_none q hT)]; exact q
  · exact ⟨#[], by rw [upd_ne (ne_of_none q hT), q]; simp⟩
  · intro b u e
    by_cases hb : b = s.heap.objs.size
    · subst hb
      rw [upd_same] at e
      cases e
      exact ⟨hz, us, r, _, new, rfl, n, rfl⟩
    · rw [upd_ne hb] at e
      refine (I.hok b u e).stay (fun c v hc q => kp c v (fun z => ?_) q) (fun c q => ?_) fun c xs q => ?_
      · rcases hc with w' | w'
        · subst w'; exact nf _ _ e z
        · exact nf _ _ w' z
      · rw [upd_ne (ne_of_none q hT)]; exact q
      · rw [upd_ne (ne_of_none q hT)]; exact q
  · obtain ⟨f0, f1, f2, f3, f4, f5⟩ := hf b hb
    exact ⟨f3, f1, f4, f5⟩
theorem Inv.turnedL {fp : List Addr} {h' : Heap} {t' : Nat} (I : Inv X pins σ H s) (hf : ∀ b ∈ fp, FpOk X pins H b) (kp : ∀ b o, b ∉ fp → s.heap.get? b = some o → h'.get? b = some o) : Inv X pins σ H { s with heap := h', toks := t' } := by
  have nf : ∀ b u, H b = some u → b ∉ fp := fun b u e hb => by rw [(hf b hb).1] at e; cases e
  refine I.call (g' := s.gens) (d' := s.drawn) (ch := fp) ⟨fun b o e n hb hx => kp b o hx e, fun b o e n hb hx => ⟨o.slots, kp b o hx e⟩, fun b o e n hx => n, fun b o e hx => ⟨o, kp b o hx e⟩, fun b xs q => q, fun b o u q => q, fun b ps q => ⟨#[], by rw [q]; simp⟩⟩ ?_ I.bare (fun b hb => ?_)
  · intro b u e
    refine (I.hok b u e).stay (fun c v hc q => kp c v (fun z => ?_) q) (fun c q => q) fun c xs q => q
    rcases hc with w' | w'
    · subst w'; exact nf _ _ e z
    · exact nf _ _ w' z
  · obtain ⟨f0, f1, f2, f3, f4, f5⟩ := hf b hb
    exact ⟨f3, f1, f4, f5⟩
end
def Itz (K : PySem.W.Frag) (a b : Addr) : It :=
  ⟨fun i H => ∃ xs ys x y, SqL K H a xs ∧ SqL K H b ys ∧ xs[i]? = some x ∧ ys[i]? = some y, fun i H v H' => ∃ T x y, H T = none ∧ v = .ref T ∧ (∀ xs, SqL K H a xs → xs[i]? = some x) ∧ (∀ ys, SqL K H b ys → ys[i]? = some y) ∧ H' = upd H T (.tup [x, y]),
    fun i H => ∃ xs ys, SqL K H a xs ∧ SqL K H b ys ∧ (xs.length ≤ i ∨ ys.length ≤ i)⟩
theorem turn_zip {P : Program} {w : World} {K : PySem.W.Frag} {es : List Expr} {x1 : Nat} {pos : Pos} (l1 l2 z TI TO i1 i2 : Addr) (D : ZipApart z TI TO i1 i2 l1 l2) :
    Turn P w K (.Tuple es x1 pos) (Itz K l1 l2) [z, TO, i1, i2, TI] z (fun i h => IsZip h z TI TO .none ∧ IsPair h TI (.ref i1) (.ref i2) ∧ (∃ a b, IsPair h TO a b) ∧ h.IsListIter i1 l1 i ∧ h.IsListIter i2 l2 i) where
  mem := by simp
  obj := fun i h st b hb => by
    obtain ⟨h1, h2, ⟨a, c, h3⟩, ⟨o4, e4, c4, d4⟩, ⟨o5, e5, c5, d5⟩⟩ := st
    have nf : ∀ {vs : Array Value} {v : Option Value}, Data.fields vs ≠ Data.cell v := fun z => by cases z
    have ns : ∀ {vs : Array Value} {n : Nat} {v : Option Value}, Data.seq vs n ≠ Data.cell v := fun z => by cases z
    simp only [List.mem_cons, List.not_mem_nil, or_false] at hb
    rcases hb with rfl | rfl | rfl | rfl | rfl
    · exact ⟨_, h1, fun v z => nf z⟩
    · exact ⟨_, h3, fun v z => ns z⟩
    · exact ⟨_, e4, fun v z => by rw [d4] at z; cases z⟩
    · exact ⟨_, e5, fun v z => by rw [d5] at z; cases z⟩
    · exact ⟨_, h2, fun v z => ns z⟩
  keep := fun i h h' st k => by
    obtain ⟨h1, h2, ⟨a, c, h3⟩, h4, h5⟩ := st
    exact ⟨k z (by simp) _ h1, k TI (by simp) _ h2, ⟨a, c, k TO (by simp) _ h3⟩, h4.at fun o q => k i1 (by simp) o q, h5.at fun o q => k i2 (by simp) o q⟩
  item := by
    intro X hP hw hK hc i pins s σ H E I hf st hg
    subst hP hw hK
    obtain ⟨xs, ys, x, y, hq1, hq2, hx, hy⟩ := hg
    obtain ⟨its1, rv1, p1, _⟩ := I.list hq1
    obtain ⟨its2, rv2, p2, _⟩ := I.list hq2
    obtain ⟨u, hu, ru⟩ := rv1.get hx
    obtain ⟨v, hv, rv⟩ := rv2.get hy
    obtain ⟨h1, h2, ⟨a, c, h3⟩, h4, h5⟩ := st
    have lts : ∀ b ∈ [z, TO, i1, i2, TI], b < s.heap.objs.size := fun b hb => by
      obtain ⟨_, e4, _⟩ := h4
      obtain ⟨_, e5, _⟩ := h5
      simp only [List.mem_cons, List.not_mem_nil, or_false] at hb
      rcases hb with rfl | rfl | rfl | rfl | rfl
      · exact Heap.lt_size h1
      · exact Heap.lt_size h3
      · exact Heap.lt_size e4
      · exact Heap.lt_size e5
      · exact Heap.lt_size h2
    refine wpAny_pyNext_zip_item D h1 h2 h3 h4 h5 p1.isList p2.isList (x := u) (y := v) (by simpa using hu) (by simpa using hv) fun h' g1 g2 g3 g4 g5 sz kp => ?_
    refine ⟨_, rfl, wpAny_letOwnedTupleGo_zip g1 fun hh gz sb => ?_⟩
    have zT : z ≠ s.heap.objs.size := Nat.ne_of_lt (lts z (by simp))
    have kp2 : ∀ b o, b ∉ [z, TO, i1, i2, TI] → s.heap.get? b = some o → hh.get? b = some o := fun b o hb q => by
      simp only [List.mem_cons, List.not_mem_nil, or_false, not_or] at hb
      exact (sb.2 b hb.1).trans (kp b o hb.1 hb.2.1 hb.2.2.1 hb.2.2.2.1 q)
    refine ⟨.ref s.heap.objs.size, upd H s.heap.objs.size (.tup [x, y]), ?_, rfl, ⟨s.heap.objs.size, x, y, I.hok.fresh (Nat.le_refl _), rfl, fun ws hw => by rw [I.list_inj hw hq1]; exact hx, fun ws hw => by rw [I.list_inj hw hq2]; exact hy, rfl⟩,
      ⟨gz, (sb.2 TI D.TIz).trans (kp TI _ D.TIz D.TITO D.TIi1 D.TIi2 h2), ⟨u, v, (sb.2 TO D.TOz).trans g2⟩, g3.at fun o q => (sb.2 i1 D.i1z).trans q, g4.at fun o q => (sb.2 i2 D.i2z).trans q⟩, fun b hb => ?_⟩
    · exact I.drawn (t' := s.toks) (us := [u, v]) (n := 0) hf kp2 ((sb.2 _ (Ne.symm zT)).trans g5) (.cons ru (.cons rv .nil)) (by show 2 ≤ sizeLine; decide)
    · rw [upd_ne (Nat.ne_of_lt (lts b hb))]
      exact (hf b hb).1
  done := by
    intro X hP hw hK hc i pins s σ H E I hf st hg
    subst hP hw hK
    obtain ⟨xs, ys, hq1, hq2, hx⟩ := hg
    obtain ⟨its1, rv1, p1, _⟩ := I.list hq1
    obtain ⟨its2, rv2, p2, _⟩ := I.list hq2
    obtain ⟨h1, h2, ⟨a, c, h3⟩, h4, h5⟩ := st
    have e1 := rv1.length
    have e2 := rv2.length
    refine wpAny_pyNext_zip_end (I.ok.hd hc) D h1 h2 h3 h4 h5 p1.isList p2.isList (hx.elim (fun q => .inl (by simp; omega)) fun q => .inr (by simp; omega)) fun h' kp => ⟨rfl, I.turnedL (t' := s.toks) hf fun b o hb q => ?_⟩
    simp only [List.mem_cons, List.not_mem_nil, or_false, not_or] at hb
    exact kp b o hb.1 hb.2.1 hb.2.2.1 hb.2.2.2.1 q
  self := fun _ _ _ _ _ st h => wpAny_pyIter_zip st.1 h
def iZip (K : PySem.W.Frag) (ta : TA) : TI := fun σ H R => ta σ H fun vs H1 => ∃ a b xs ys, vs = [.ref a, .ref b] ∧ SqL K H1 a xs ∧ SqL K H1 b ys ∧ R (Itz K a b) H1
section
variable {X : Cx} {es : List Expr} {x1 : Nat} {tpos : Pos}
theorem pi_zip {a b : Expr} {ta : TA} {p pos : Pos} (hg : Gl X "zip") (hm : X.mg "zip" = none) (ha : PA X [a, b] ta) (hs : starEach [a, b] X.env = [(false, eval a X.env), (false, eval b X.env)] := by rfl) (hs2 : starEach [b] X.env = [(false, eval b X.env)] := by rfl) :
    PI X (.Tuple es x1 tpos) (.Call (.Name "zip" p) [a, b] [] pos) (iZip X.K ta) := by
  intro pins s σ H R I h
  refine Call_ (ld_blt I hg hm boot_zip (PyProof.Rows.callWith_type1 (thn (ha pos pins s σ H _ I h) fun us s1 ⟨vs, H1, I1, r1, q1⟩ => ?_) (by rw [hs, hs2]) (by rw [hs2]; rfl)))
  obtain ⟨l1, l2, xs, ys, e, hl1, hl2, q⟩ := q1
  subst e
  cases r1 with
  | cons r rr =>
    cases rr with
    | cons r' rr =>
      cases rr
      cases r
      cases r'
      obtain ⟨its1, rv1, p1, _⟩ := I1.list hl1
      obtain ⟨its2, rv2, p2, _⟩ := I1.list hl2
      have lt1 : l1 < s1.heap.objs.size := by obtain ⟨_, e, _⟩ := p1.isList; exact Heap.lt_size e
      have lt2 : l2 < s1.heap.objs.size := by obtain ⟨_, e, _⟩ := p2.isList; exact Heap.lt_size e
      refine call_zip_2 p1.isList p2.isList fun h' g1 g2 g3 g4 g5 sz kp => ?_
      refine wpAny_pyIter_zip g1 ?_
      refine ⟨_, [s1.heap.objs.size + 4, s1.heap.objs.size + 3, s1.heap.objs.size, s1.heap.objs.size + 1, s1.heap.objs.size + 2], _, _, H1, rfl, I1.kept (t' := s1.toks) kp, turn_zip l1 l2 _ _ _ _ _ (zipApart_new lt1 lt2), ⟨g1, g2, ⟨.none, .none, g3⟩, g4, g5⟩, fun b hb => ?_, q⟩
      have hb' : s1.heap.objs.size ≤ b := by
        simp only [List.mem_cons, List.not_mem_nil, or_false] at hb
        rcases hb with rfl | rfl | rfl | rfl | rfl
        · exact Nat.le_add_right _ _
        · exact Nat.le_add_right _ _
        · exact Nat.le_refl _
        · exact Nat.le_add_right _ _
        · exact Nat.le_add_right _ _
      exact I1.fpOk hb' (I1.hok.fresh hb')
end
end L2
set_option Elab.async false
set_option linter.all false
set_option maxRecDepth 100000
set_option maxHeartbeats 4000000
namespace L3
open PySem PySem.Spec PySem.Calls PyProof.Rows L2
inductive D where
  | non | bl (b : Bool) | int (i : Int) | str (x : Str) | raw (v : V)
  | tup (ds : List D) | lst (ds : List D)
  /-- dicts by keys that are ints and texts; by tuples of these; objects -/
  | dk (ks : List Key) (ds : List D) | dt (ks : List (List Key)) (ds : List D)
  | obj (C : Addr) (fs : List Str) (ds : List D)
  /-- an exception of the class at C -/
  | exc (C : Addr)
  /-- the script: a list of ints that is only read -/
  | scr (ns : List Int)
mutual
/-- v is d in the heap H -/
def Is (K : PySem.W.Frag) (H : Hp) : D → V → Prop
  | .non, v => v = .non
  | .bl b, v => v = .bl b
  | .int i, v => v = .int i
  | .str x, v => v = .str x
  | .raw u, v => v = u
  | .tup ds, v => ∃ a xs, v = .ref a ∧ SqT K H a xs ∧ IsL K H ds xs
  | .lst ds, v => ∃ a xs, v = .ref a ∧ Rd H a (.lst xs) ∧ IsL K H ds xs
  | .dk ks ds, v => ∃ a xs, v = .ref a ∧ H a = some (.dK (ks.zip xs)) ∧ ks.length = xs.length ∧ IsL K H ds xs
  | .dt ks ds, v => ∃ a xs, v = .ref a ∧ H a = some (.dT (ks.zip xs)) ∧ ks.length = xs.length ∧ IsL K H ds xs
  | .obj C fs ds, v => ∃ a dx xs, v = .ref a ∧ H a = some (.ins C dx (fs.zip xs)) ∧ fs.length = xs.length ∧ IsL K H ds xs
  | .exc C, v => ∃ a, v = .ref a ∧ H a = some (xobj a (.ref C))
  | .scr ns, v => ∃ a, v = .ref a ∧ SqL K H a (ns.map V.int)
def IsL (K : PySem.W.Frag) (H : Hp) : List D → List V → Prop
  | [], xs => xs = []
  | d :: ds, xs => ∃ x r, xs = x :: r ∧ Is K H d x ∧ IsL K H ds r
end
section
variable {K : PySem.W.Frag} {H H' : Hp}
theorem same_rd {a : Addr} {u : HO} (e : Same H H') (h : Rd H a u) : Rd H' a u := by
  rcases h with h | ⟨o, h⟩
  · exact .inl (e _ _ h)
  · exact .inr ⟨o, e _ _ h⟩
theorem same_tup {a : Addr} {xs : List V} (e : Same H H') (h : SqT K H a xs) : SqT K H' a xs := by
  rcases h with (h | ⟨o, h⟩) | h
  · exact .inl (.inl (e _ _ h))
  · exact .inl (.inr ⟨o, e _ _ h⟩)
  · exact .inr h
mutual
theorem Is.mono (e : Same H H') : ∀ {d : D} {v : V}, Is K H d v → Is K H' d v
  | .non, _, h => by simp only [Is] at h ⊢; exact h
  | .bl _, _, h => by simp only [Is] at h ⊢; exact h
  | .int _, _, h => by simp only [Is] at h ⊢; exact h
  | .str _, _, h => by simp only [Is] at h ⊢; exact h
  | .raw _, _, h => by simp only [Is] at h ⊢; exact h
  | .tup ds, _, h => by simp only [Is] at h ⊢; obtain ⟨a, xs, e1, e2, e3⟩ := h; exact ⟨a, xs, e1, same_tup e e2, IsL.mono e e3⟩
  | .lst ds, _, h => by simp only [Is] at h ⊢; obtain ⟨a, xs, e1, e2, e3⟩ := h; exact ⟨a, xs, e1, same_rd e e2, IsL.mono e e3⟩
  | .dk ks ds, _, h => by simp only [Is] at h ⊢; obtain ⟨a, xs, e1, e2, e4, e3⟩ := h; exact ⟨a, xs, e1, e _ _ e2, e4, IsL.mono e e3⟩
  | .dt ks ds, _, h => by simp only [Is] at h ⊢; obtain ⟨a, xs, e1, e2, e4, e3⟩ := h; exact ⟨a, xs, e1, e _ _ e2, e4, IsL.mono e e3⟩
  | .obj C fs ds, _, h => by simp only [Is] at h ⊢; obtain ⟨a, dx, xs, e1, e2, e4, e3⟩ := h; exact ⟨a, dx, xs, e1, e _ _ e2, e4, IsL.mono e e3⟩
  | .exc C, _, h => by simp only [Is] at h ⊢; obtain ⟨a, e1, e2⟩ := h; exact ⟨a, e1, e _ _ e2⟩
  | .scr ns, _, h => by simp only [Is] at h ⊢; obtain ⟨a, e1, e2⟩ := h; exact ⟨a, e1, e.seq e2⟩
theorem IsL.mono (e : Same H H') : ∀ {ds : List D} {xs : List V}, IsL K H ds xs → IsL K H' ds xs
  | [], _, h => by simp only [IsL] at h ⊢; exact h
  | d :: ds, _, h => by
    simp only [IsL] at h ⊢
    obtain ⟨x, r, e1, e2, e3⟩ := h
    exact ⟨x, r, e1, Is.mono e e2, IsL.mono e e3⟩
end
theorem IsL.nil : IsL K H [] [] := by simp only [IsL]
theorem IsL.cons {d : D} {ds : List D} {x : V} {xs : List V} (h : Is K H d x) (t : IsL K H ds xs) : IsL K H (d :: ds) (x :: xs) := by
  simp only [IsL]; exact ⟨x, xs, rfl, h, t⟩
theorem IsL.len : ∀ {ds : List D} {xs : List V}, IsL K H ds xs → xs.length = ds.length
  | [], _, h => by simp only [IsL] at h; subst h; rfl
  | d :: ds, _, h => by
    simp only [IsL] at h
    obtain ⟨x, r, rfl, _, t⟩ := h
    simp [IsL.len t]
theorem IsL.get : ∀ {ds : List D} {xs : List V} {i : Nat} {d : D}, IsL K H ds xs → ds[i]? = some d → ∃ x, xs[i]? = some x ∧ Is K H d x
  | [], _, _, _, _, e => by simp at e
  | d :: ds, _, 0, d', h, e => by
    simp only [IsL] at h
    obtain ⟨x, r, rfl, h1, _⟩ := h
    simp at e
    subst e
    exact ⟨x, rfl, h1⟩
  | d :: ds, _, i + 1, d', h, e => by
    simp only [IsL] at h
    obtain ⟨x, r, rfl, _, t⟩ := h
    exact IsL.get (i := i) t (by simpa using e)
theorem IsL.append : ∀ {ds es : List D} {xs ys : List V}, IsL K H ds xs → IsL K H es ys → IsL K H (ds ++ es) (xs ++ ys)
  | [], _, _, _, h, t => by simp only [IsL] at h; subst h; exact t
  | d :: ds, es, _, ys, h, t => by
    simp only [IsL] at h
    obtain ⟨x, r, rfl, h1, h2⟩ := h
    exact IsL.cons h1 (IsL.append h2 t)
theorem IsL.take : ∀ {ds : List D} {xs : List V} (n : Nat), IsL K H ds xs → IsL K H (ds.take n) (xs.take n)
  | _, _, 0, _ => by simpa using IsL.nil
  | [], _, n + 1, h => by simp only [IsL] at h; subst h; simpa using IsL.nil
  | d :: ds, _, n + 1, h => by
    simp only [IsL] at h
    obtain ⟨x, r, rfl, h1, h2⟩ := h
    exact IsL.cons h1 (IsL.take n h2)
theorem IsL.drop : ∀ {ds : List D} {xs : List V} (n : Nat), IsL K H ds xs → IsL K H (ds.drop n) (xs.drop n)
  | _, _, 0, h => by simpa using h
  | [], _, n + 1, h => by simp only [IsL] at h; subst h; simpa using IsL.nil
  | d :: ds, _, n + 1, h => by
    simp only [IsL] at h
    obtain ⟨x, r, rfl, h1, h2⟩ := h
    exact IsL.drop n h2
theorem IsL.get_none {ds : List D} {xs : List V} {i : Nat} (h : IsL K H ds xs) (e : ds[i]? = none) : xs[i]? = none := by
  have := h.len
  rw [List.getElem?_eq_none_iff] at e ⊢
  omega
theorem IsL.get' {ds : List D} {xs : List V} {i : Nat} {x : V} (h : IsL K H ds xs) (e : xs[i]? = some x) : ∃ d, ds[i]? = some d ∧ Is K H d x := by
  cases q : ds[i]? with
  | none => rw [h.get_none q] at e; cases e
  | some d =>
    obtain ⟨y, e1, e2⟩ := h.get q
    rw [e] at e1
    cases e1
    exact ⟨d, rfl, e2⟩
theorem IsL.of_ints : ∀ {ns : List Int} {xs : List V}, IsL K H (ns.map D.int) xs → xs = ns.map V.int
  | [], _, h => by simp only [List.map_nil, IsL] at h; subst h; rfl
  | n :: ns, _, h => by
    simp only [List.map_cons, IsL] at h
    obtain ⟨x, r, rfl, h1, h2⟩ := h
    simp only [Is] at h1
    rw [h1, IsL.of_ints h2]; rfl
end
structure Pur (F H F' H' : Hp) : Prop where
  ff : Same F F'
  fh : Same F' H'
  hh : Same H H'
  new : ∀ b, F' b ≠ none → F b ≠ none ∨ H b = none
theorem Pur.refl {F H : Hp} (h : Same F H) : Pur F H F H := ⟨Same.refl _, h, Same.refl _, fun _ q => .inl q⟩
theorem Pur.trans {F H F1 H1 F2 H2 : Hp} (a : Pur F H F1 H1) (b : Pur F1 H1 F2 H2) : Pur F H F2 H2 :=
  ⟨a.ff.trans b.ff, b.fh, a.hh.trans b.hh, fun c q => (b.new c q).elim (fun z => a.new c z) fun z => .inr (a.hh.free z)⟩
theorem Pur.lay {F H : Hp} (h : Same F H) {p : Addr} {o : HO} (hp : H p = none) : Pur F H (upd F p o) (upd H p o) := by
  have fp : F p = none := h.free hp
  refine ⟨fun b u e => ?_, fun b u e => ?_, fun b u e => ?_, fun b q => ?_⟩
  · rw [upd_ne (ne_of_none e fp)]; exact e
  · by_cases hb : b = p
    · subst hb; rw [upd_same] at e ⊢; exact e
    · rw [upd_ne hb] at e ⊢; exact h _ _ e
  · rw [upd_ne (ne_of_none e hp)]; exact e
  · by_cases hb : b = p
    · subst hb; exact .inr hp
    · rw [upd_ne hb] at q; exact .inl q
theorem Pur.layOwn {F H : Hp} (h : Same F H) {p : Addr} {o : HO} (hp : H p = none) : Pur F H F (upd H p o) := by
  refine ⟨Same.refl _, fun b u e => ?_, fun b u e => ?_, fun b q => .inl q⟩
  · rw [upd_ne (ne_of_none (h _ _ e) hp)]; exact h _ _ e
  · rw [upd_ne (ne_of_none e hp)]; exact e
def Sl (K : PySem.W.Frag) (F : Hp) (Γ : List (Option D)) (σ : L2.St) : Prop := ∀ (i : Nat) (d : D), Γ[i]? = some (some d) → ∃ v, σ[i]? = some (some v) ∧ Is K F d v
theorem Sl.mono {K : PySem.W.Frag} {F F' : Hp} {Γ : List (Option D)} {σ : L2.St} (h : Sl K F Γ σ) (e : Same F F') : Sl K F' Γ σ := fun i d q => by
  obtain ⟨v, h1, h2⟩ := h i d q
  exact ⟨v, h1, h2.mono e⟩
def tP (K : PySem.W.Frag) (Γ : List (Option D)) (d : D) : TE := fun σ H Q => ∃ F, Same F H ∧ Sl K F Γ σ ∧ ∀ v H' F', Pur F H F' H' → Is K F' d v → Q v H'
def tPT (K : PySem.W.Frag) (Γ : List (Option D)) (b : Bool) : TT := fun σ H Q => ∃ F, Same F H ∧ Sl K F Γ σ ∧ ∀ H' F', Pur F H F' H' → Q b H'
def tPL (K : PySem.W.Frag) (Γ : List (Option D)) (ds : List D) : TA := fun σ H Q => ∃ F, Same F H ∧ Sl K F Γ σ ∧ ∀ vs H' F', Pur F H F' H' → IsL K F' ds vs → Q vs H'
def P3 (X : Cx) (Γ : List (Option D)) (e : Expr) (d : D) : Prop := PE X e (tP X.K Γ d)
def PT3 (X : Cx) (Γ : List (Option D)) (e : Expr) (b : Bool) : Prop := PT X e (tPT X.K Γ b)
def PL3 (X : Cx) (Γ : List (Option D)) (es : List Expr) (ds : List D) : Prop := PA X es (tPL X.K Γ ds)
def PF3 (X : Cx) (Γ : List (Option D)) (e : Expr) (ds : List D) : Prop := PE X e fun σ H Q => ∃ F, Same F H ∧ Sl X.K F Γ σ ∧ ∀ p xs H' F', Pur F H F' H' → H p = none → F' p = none → H' p = some (.lst xs) → IsL X.K F' ds xs → Q (.ref p) H'
theorem PE.of {X : Cx} {e : Expr} {t u : TE} (h : PE X e t) (i : ∀ σ H Q, u σ H Q → t σ H Q) : PE X e u := fun pins s σ H Q I hq => h pins s σ H Q I (i _ _ _ hq)
theorem PT.of {X : Cx} {e : Expr} {t u : TT} (h : PT X e t) (i : ∀ σ H Q, u σ H Q → t σ H Q) : PT X e u := fun pins s σ H Q I hq => h pins s σ H Q I (i _ _ _ hq)
theorem PA.of {X : Cx} {e : List Expr} {t u : TA} (h : PA X e t) (i : ∀ σ H Q, u σ H Q → t σ H Q) : PA X e u := fun p pins s σ H Q I hq => h p pins s σ H Q I (i _ _ _ hq)
section
variable {X : Cx} {Γ : List (Option D)} {a b c : Expr} {d d' : D} {pos : Pos}
theorem p_var {i : Nat} {x : Str} (hN : X.N[i]? = some x) (hv : Vis X.env.scope x) (hΓ : Γ[i]? = some (some d)) (hd : (x == ("__debug__" : Str)) = false := by decide) (hcd : (x == ("__classdict__" : Str)) = false := by decide) : P3 X Γ (.Name x pos) d :=
  PE.of (pe_var hN hv hd hcd) fun σ H Q ⟨F, fh, sl, k⟩ => by
    obtain ⟨v, e, h⟩ := sl i d hΓ
    exact ⟨v, e, k v H F (Pur.refl fh) h⟩
theorem p_int {i j} : P3 X Γ (.Constant (.int i) j pos) (.int i) := PE.of pe_int fun σ H Q ⟨F, fh, sl, k⟩ => k _ H F (Pur.refl fh) (by simp only [Is])
theorem p_bl {i j} : P3 X Γ (.Constant (.bool i) j pos) (.bl i) := PE.of pe_bl fun σ H Q ⟨F, fh, sl, k⟩ => k _ H F (Pur.refl fh) (by simp only [Is])
theorem p_non {j} : P3 X Γ (.Constant .none j pos) .non := PE.of pe_non fun σ H Q ⟨F, fh, sl, k⟩ => k _ H F (Pur.refl fh) (by simp only [Is])
theorem p_str {i j} : P3 X Γ (.Constant (.str i) j pos) (.str i) := PE.of pe_str fun σ H Q ⟨F, fh, sl, k⟩ => k _ H F (Pur.refl fh) (by simp only [Is])
theorem p_glob {x : Str} {v : V} {u : Value} (hg : Gl X x) (hm : X.mg x = some u) (r : RelV v u) (hi : ∀ F, Is X.K F d v) (hd : (x == ("__debug__" : Str)) = false := by decide) : P3 X Γ (.Name x pos) d :=
  PE.of (pe_glob hg hm r hd) fun σ H Q ⟨F, fh, sl, k⟩ => k _ H F (Pur.refl fh) (hi F)
theorem p_bltn {x : Str} {v : V} {u : Value} (hg : Gl X x) (hm : X.mg x = none) (hv : bootBuiltins x = some u) (r : RelV v u) (hn : x ≠ "__name__" := by decide) (hd : (x == ("__debug__" : Str)) = false := by decide) : P3 X Γ (.Name x pos) (.raw v) :=
  PE.of (pe_bltn hg hm hv r hn hd) fun σ H Q ⟨F, fh, sl, k⟩ => k _ H F (Pur.refl fh) (by simp only [Is])
theorem tP2 {K : PySem.W.Frag} {σ : L2.St} {H : Hp} {R : V → V → Hp → Prop} (h : ∃ F, Same F H ∧ Sl K F Γ σ ∧ ∀ x y H2 F2, Pur F H F2 H2 → Is K F2 d x → Is K F2 d' y → R x y H2) :
    tP K Γ d σ H fun x H1 => tP K Γ d' σ H1 fun y H2 => R x y H2 := by
  obtain ⟨F, fh, sl, k⟩ := h
  exact ⟨F, fh, sl, fun x H1 F1 p1 i1 => ⟨F1, p1.fh, sl.mono p1.ff, fun y H2 F2 p2 i2 => k x y H2 F2 (p1.trans p2) (i1.mono p2.ff) i2⟩⟩
theorem p_opR {op : Operator} {r : R2} {d3 : D} (ho : OpR X (binaryOp op) r) (ha : P3 X Γ a d) (hb : P3 X Γ b d') (hr : ∀ x y H F Q, Same F H → Is X.K F d x → Is X.K F d' y → (∀ v H' F', Pur F H F' H' → Is X.K F' d3 v → Q v H') → r x y H Q) : P3 X Γ (.BinOp a op b pos) d3 :=
  PE.of (pe_op ho ha hb) fun σ H Q ⟨F, fh, sl, k⟩ => tP2 ⟨F, fh, sl, fun x y H2 F2 p i1 i2 => hr x y H2 F2 Q p.fh i1 i2 fun v H' F' p' i => k v H' F' (p.trans p') i⟩
theorem isI {K : PySem.W.Frag} {F : Hp} {i : Int} {v : V} (h : Is K F (.int i) v) : v = .int i := by simp only [Is] at h; exact h
theorem isS {K : PySem.W.Frag} {F : Hp} {i : Str} {v : V} (h : Is K F (.str i) v) : v = .str i := by simp only [Is] at h; exact h
theorem isB {K : PySem.W.Frag} {F : Hp} {i : Bool} {v : V} (h : Is K F (.bl i) v) : v = .bl i := by simp only [Is] at h; exact h
theorem isR {K : PySem.W.Frag} {F : Hp} {i v : V} (h : Is K F (.raw i) v) : v = i := by simp only [Is] at h; exact h
theorem isN {K : PySem.W.Frag} {F : Hp} {v : V} (h : Is K F .non v) : v = .non := by simp only [Is] at h; exact h
theorem p_opI {op : Operator} {C : Int → Int → Prop} {g : Int → Int → V} {i j : Int} {d3 : D} (ho : OpR X (binaryOp op) (rI C g)) (ha : P3 X Γ a (.int i)) (hb : P3 X Γ b (.int j)) (hc : C i j) (h3 : ∀ F, Is X.K F d3 (g i j)) : P3 X Γ (.BinOp a op b pos) d3 :=
  p_opR ho ha hb fun x y H F Q fh i1 i2 k => ⟨i, j, isI i1, isI i2, hc, k _ H F (Pur.refl fh) (h3 F)⟩
theorem p_opI0 {op : Operator} {g : Int → Int → V} {i j : Int} {d3 : D} (ho : OpR X (binaryOp op) (rI0 g)) (ha : P3 X Γ a (.int i)) (hb : P3 X Γ b (.int j)) (h3 : ∀ F, Is X.K F d3 (g i j)) : P3 X Γ (.BinOp a op b pos) d3 :=
  p_opR ho ha hb fun x y H F Q fh i1 i2 k => ⟨i, j, isI i1, isI i2, k _ H F (Pur.refl fh) (h3 F)⟩
theorem i_int {K : PySem.W.Frag} {i : Int} : ∀ F, Is K F (.int i) (.int i) := fun _ => by simp only [Is]
theorem i_bl {K : PySem.W.Frag} {i : Bool} : ∀ F, Is K F (.bl i) (.bl i) := fun _ => by simp only [Is]
theorem i_str {K : PySem.W.Frag} {i : Str} : ∀ F, Is K F (.str i) (.str i) := fun _ => by simp only [Is]
theorem i_raw {K : PySem.W.Frag} {i : V} : ∀ F, Is K F (.raw i) i := fun _ => by simp only [Is]
theorem i_non {K : PySem.W.Frag} : ∀ F, Is K F .non .non := fun _ => by simp only [Is]
variable {i j : Int}
theorem p_add (ha : P3 X Γ a (.int i)) (hb : P3 X Γ b (.int j)) : P3 X Γ (.BinOp a .Add b pos) (.int (i + j)) := p_opI0 op_add ha hb i_int
theorem p_sub (ha : P3 X Γ a (.int i)) (hb : P3 X Γ b (.int j)) : P3 X Γ (.BinOp a .Sub b pos) (.int (i - j)) := p_opI0 op_sub ha hb i_int
theorem p_mul (ha : P3 X Γ a (.int i)) (hb : P3 X Γ b (.int j)) (h : IntMulOk i j) : P3 X Γ (.BinOp a .Mult b pos) (.int (i * j)) := p_opI op_mulI ha hb h i_int
theorem p_mod (ha : P3 X Γ a (.int i)) (hb : P3 X Γ b (.int j)) (h : 0 < j) : P3 X Γ (.BinOp a .Mod b pos) (.int (i % j)) := p_opI op_mod ha hb h i_int
theorem p_fdivP (py : Pyl X) (ha : P3 X Γ a (.int i)) (hb : P3 X Γ b (.int j)) (h : 0 < j) : P3 X Γ (.BinOp a .FloorDiv b pos) (.int (i / j)) :=
  p_opI (op_fdivP py) ha hb (by omega) (fun F => by rw [Int.fdiv_eq_ediv_of_nonneg _ (Int.le_of_lt h)]; exact i_int F)
theorem p_pow (ha : P3 X Γ a (.int i)) (hb : P3 X Γ b (.int j)) (h : CPow i j) : P3 X Γ (.BinOp a .Pow b pos) (.int (i ^ j.toNat)) := p_opI op_pow ha hb h i_int
end
theorem atI_is {K : PySem.W.Frag} {F : Hp} {ds : List D} {xs : List V} {i : Int} {d : D} (h : IsL K F ds xs) (e : atI ds i = some d) : ∃ x, atI xs i = some x ∧ Is K F d x := by
  unfold atI at e ⊢
  rw [h.len]
  cases q : ixN ds.length i with
  | none => rw [q] at e; cases e
  | some j =>
    rw [q] at e
    exact h.get (i := j) e
section
variable {X : Cx} {Γ : List (Option D)} {a b c : Expr} {d d' : D} {pos : Pos} {i : Int} {ds : List D}
theorem p_ixR {r : R2} {d3 : D} (ho : IxR X r) (ha : P3 X Γ a d) (hb : P3 X Γ b d') (hr : ∀ x y H F Q, Same F H → Is X.K F d x → Is X.K F d' y → (∀ v H' F', Pur F H F' H' → Is X.K F' d3 v → Q v H') → r x y H Q) (hs : PlainIx b) : P3 X Γ (.Subscript a b pos) d3 :=
  PE.of (pe_ix ho ha hb hs) fun σ H Q ⟨F, fh, sl, k⟩ => tP2 ⟨F, fh, sl, fun x y H2 F2 p i1 i2 => hr x y H2 F2 Q p.fh i1 i2 fun v H' F' p' i => k v H' F' (p.trans p') i⟩
theorem p_ixT (ha : P3 X Γ a (.tup ds)) (hb : P3 X Γ b (.int i)) (he : atI ds i = some d) (hs : PlainIx b := by exact fun _ _ => rfl) : P3 X Γ (.Subscript a b pos) d :=
  p_ixR ix_tup ha hb (fun x y H F Q fh i1 i2 k => by
    simp only [Is] at i1 i2
    obtain ⟨p, xs, rfl, h1, h2⟩ := i1
    obtain ⟨v, e1, e2⟩ := atI_is h2 he
    exact ⟨p, xs, i, v, rfl, i2, same_tup fh h1, e1, k v H F (Pur.refl fh) e2⟩) hs
theorem p_ixL (ha : P3 X Γ a (.lst ds)) (hb : P3 X Γ b (.int i)) (he : atI ds i = some d) (hs : PlainIx b := by exact fun _ _ => rfl) : P3 X Γ (.Subscript a b pos) d :=
  p_ixR ix_list ha hb (fun x y H F Q fh i1 i2 k => by
    simp only [Is] at i1 i2
    obtain ⟨p, xs, rfl, h1, h2⟩ := i1
    obtain ⟨v, e1, e2⟩ := atI_is h2 he
    exact ⟨p, xs, i, v, rfl, i2, .inl (same_rd fh h1), e1, k v H F (Pur.refl fh) e2⟩) hs
theorem p_ixS {x : Str} {c : Nat} (ha : P3 X Γ a (.str x)) (hb : P3 X Γ b (.int i)) (hz : x.length ≤ sizeLine) (he : atI x.cps.toList i = some c) (hs : PlainIx b := by exact fun _ _ => rfl) : P3 X Γ (.Subscript a b pos) (.str ⟨#[c]⟩) :=
  p_ixR ix_str ha hb (fun x' y H F Q fh i1 i2 k => by
    simp only [Is] at i1 i2
    exact ⟨x, i, c, i1, i2, hz, he, k _ H F (Pur.refl fh) (i_str F)⟩) hs
variable {e : Expr} {es : List Expr}
theorem pl_nil : PL3 X Γ [] [] := PA.of pa_nil fun σ H Q ⟨F, fh, sl, k⟩ => k [] H F (Pur.refl fh) IsL.nil
theorem pl_cons (ha : P3 X Γ e d) (hr : PL3 X Γ es ds) (hs : starEach (e :: es) X.env = (false, eval e X.env) :: starEach es X.env := by rfl) : PL3 X Γ (e :: es) (d :: ds) :=
  PA.of (pa_cons ha hr hs) fun σ H Q ⟨F, fh, sl, k⟩ => ⟨F, fh, sl, fun x H1 F1 p1 i1 => ⟨F1, p1.fh, sl.mono p1.ff, fun xs H2 F2 p2 i2 => k (x :: xs) H2 F2 (p1.trans p2) (IsL.cons (i1.mono p2.ff) i2)⟩⟩
theorem p_tup {x1} (h : PL3 X Γ es ds) (hz : ds.length ≤ sizeLine := by (simp only [List.length_cons, List.length_nil]; decide)) : P3 X Γ (.Tuple es x1 pos) (.tup ds) :=
  PE.of (pe_tup h) fun σ H Q ⟨F, fh, sl, k⟩ => ⟨F, fh, sl, fun xs H1 F1 p1 i1 => ⟨by rw [i1.len]; exact hz, fun p hp => k _ _ _ (p1.trans (Pur.lay p1.fh hp)) (by
    simp only [Is]
    exact ⟨p, xs, rfl, .inl (.inl upd_same), i1.mono (Pur.lay p1.fh hp).ff⟩)⟩⟩
theorem pf_lst (h : PL3 X Γ es ds) (hz : ds.length ≤ sizeLine := by (simp only [List.length_cons, List.length_nil]; decide)) : PF3 X Γ (.List es pos) ds :=
  PE.of (pe_lst h) fun σ H Q ⟨F, fh, sl, k⟩ => ⟨F, fh, sl, fun xs H1 F1 p1 i1 => ⟨by rw [i1.len]; exact hz, fun p hp => k p xs _ F1 (p1.trans (Pur.layOwn p1.fh hp)) (p1.hh.free hp) (p1.fh.free hp) upd_same i1⟩⟩
theorem PF3.p (h : PF3 X Γ e ds) : P3 X Γ e (.lst ds) := PE.of h fun σ H Q ⟨F, fh, sl, k⟩ => ⟨F, fh, sl, fun p xs H' F' pu hp fp e i => by
  have w : Same F' (upd F' p (.lst xs)) := fun b u q => by rw [upd_ne (ne_of_none q fp)]; exact q
  have wf : Same (upd F' p (.lst xs)) H' := fun b u q => by
    by_cases hb : b = p
    · subst hb; rw [upd_same] at q; cases q; exact e
    · rw [upd_ne hb] at q; exact pu.fh _ _ q
  have w2 : Pur F H (upd F' p (.lst xs)) H' := by
    refine ⟨pu.ff.trans w, wf, pu.hh, fun b q => ?_⟩
    by_cases hb : b = p
    · subst hb; exact .inr hp
    · rw [upd_ne hb] at q; exact pu.new b q
  exact k _ _ _ w2 (by simp only [Is]; exact ⟨p, xs, rfl, .inl upd_same, i.mono w⟩)⟩
theorem p_lst (h : PL3 X Γ es ds) (hz : ds.length ≤ sizeLine := by (simp only [List.length_cons, List.length_nil]; decide)) : P3 X Γ (.List es pos) (.lst ds) := (pf_lst h hz).p
end
end L3
set_option Elab.async false
set_option linter.all false
set_option maxRecDepth 100000
set_option maxHeartbeats 4000000
namespace L3
open PySem PySem.Spec PySem.Calls PyProof.Rows L2
mutual
def beqD : D → D → Bool
  | .non, .non => true
  | .bl a, .bl b => a == b
  | .int a, .int b => a == b
  | .str a, .str b => a == b
  | .tup a, .tup b => beqL a b
  | .lst a, .lst b => beqL a b
  | _, _ => false
def beqL : List D → List D → Bool
  | [], [] => true
  | a :: as, b :: bs => beqD a b && beqL as bs
  | _, _ => false
end
mutual
/-- plain values: no dicts, no objects -/
def pln : D → Bool
  | .non => true
  | .bl _ => true
  | .int _ => true
  | .str _ => true
  | .tup a => plnL a
  | .lst a => plnL a
  | _ => false
def plnL : List D → Bool
  | [] => true
  | a :: as => pln a && plnL as
end
mutual
/-- of one kind wherever they are compared -/
def kin : D → D → Bool
  | .non, .non => true
  | .bl _, .bl _ => true
  | .int _, .int _ => true
  | .str _, .str _ => true
  | .tup a, .tup b => kins a b
  | .lst a, .lst b => kins a b
  | _, _ => false
def kins : List D → List D → Bool
  | a :: as, b :: bs => kin a b && kins as bs
  | _, _ => true
end
mutual
def dep : D → Nat
  | .tup a => depL a + 1
  | .lst a => depL a + 1
  | _ => 0
def depL : List D → Nat
  | [] => 0
  | a :: as => max (dep a) (depL as)
end
theorem kin_inv {d e : D} (h : kin d e = true) : (d = .non ∧ e = .non) ∨ (∃ a b, d = .bl a ∧ e = .bl b) ∨ (∃ a b, d = .int a ∧ e = .int b) ∨ (∃ a b, d = .str a ∧ e = .str b) ∨ (∃ a b, d = .tup a ∧ e = .tup b ∧ kins a b = true) ∨ (∃ a b, d = .lst a ∧ e = .lst b ∧ kins a b = true) := by
  rw [kin.eq_def] at h
  split at h
  · exact .inl ⟨rfl, rfl⟩
  · exact .inr (.inl ⟨_, _, rfl, rfl⟩)
  · exact .inr (.inr (.inl ⟨_, _, rfl, rfl⟩))
  · exact .inr (.inr (.inr (.inl ⟨_, _, rfl, rfl⟩)))
  · exact .inr (.inr (.inr (.inr (.inl ⟨_, _, rfl, rfl, h⟩))))
  · exact .inr (.inr (.inr (.inr (.inr ⟨_, _, rfl, rfl, h⟩))))
  · exact absurd h (by decide)
mutual
theorem beqD_refl : ∀ {d : D}, pln d = true → beqD d d = true
  | .non, _ => by simp [beqD]
  | .bl _, _ => by simp [beqD]
  | .int _, _ => by simp [beqD]
  | .str _, _ => by simp [beqD]
  | .tup a, h => by rw [beqD]; rw [pln] at h; exact beqL_refl h
  | .lst a, h => by rw [beqD]; rw [pln] at h; exact beqL_refl h
  | .raw _, h => by simp [pln] at h
  | .dk _ _, h => by simp [pln] at h
  | .dt _ _, h => by simp [pln] at h
  | .obj _ _ _, h => by simp [pln] at h
  | .exc _, h => by simp [pln] at h
  | .scr _, h => by simp [pln] at h
theorem beqL_refl : ∀ {d : List D}, plnL d = true → beqL d d = true
  | [], _ => by simp [beqL]
  | a :: as, h => by
    rw [plnL, Bool.and_eq_true] at h
    rw [beqL, beqD_refl h.1, beqL_refl h.2]; rfl
end
mutual
theorem beqD_eq : ∀ {d e : D}, beqD d e = true → d = e
  | .non, e, h => by cases e <;> simp [beqD] at h ⊢
  | .bl _, e, h => by cases e <;> simp [beqD] at h ⊢; exact h
  | .int _, e, h => by cases e <;> simp [beqD] at h ⊢; exact h
  | .str _, e, h => by cases e <;> simp [beqD] at h ⊢; exact h
  | .tup a, e, h => by cases e <;> simp only [beqD, Bool.false_eq_true] at h; rw [beqL_eq h]
  | .lst a, e, h => by cases e <;> simp only [beqD, Bool.false_eq_true] at h; rw [beqL_eq h]
  | .raw _, e, h => by cases e <;> simp [beqD] at h
  | .dk _ _, e, h => by cases e <;> simp [beqD] at h
  | .dt _ _, e, h => by cases e <;> simp [beqD] at h
  | .obj _ _ _, e, h => by cases e <;> simp [beqD] at h
  | .exc _, e, h => by cases e <;> simp [beqD] at h
  | .scr _, e, h => by cases e <;> simp [beqD] at h
theorem beqL_eq : ∀ {d e : List D}, beqL d e = true → d = e
  | [], e, h => by cases e <;> simp [beqL] at h ⊢
  | a :: as, e, h => by
    cases e with
    | nil => simp [beqL] at h
    | cons b bs =>
      rw [beqL, Bool.and_eq_true] at h
      rw [beqD_eq h.1, beqL_eq h.2]
end
theorem beqD_ne {d e : D} (h : d ≠ e) : beqD d e = false := by
  cases q : beqD d e with
  | false => rfl
  | true => exact absurd (beqD_eq q) h
theorem beqL_all : ∀ (ds es : List D), ds.length = es.length → ((List.range ds.length).all fun j => beqD (ds.getD j .non) (es.getD j .non)) = beqL ds es
  | [], [], _ => by simp [beqL]
  | [], _ :: _, h => by simp at h
  | _ :: _, [], h => by simp at h
  | a :: as, b :: bs, h => by
    have ih := beqL_all as bs (by simpa using h)
    rw [beqL, ← ih, List.length_cons, List.range_succ_eq_map, List.all_cons, List.all_map]
    rfl
theorem beqL_len : ∀ {ds es : List D}, ds.length ≠ es.length → beqL ds es = false
  | [], [], h => absurd rfl h
  | [], _ :: _, _ => by simp [beqL]
  | _ :: _, [], _ => by simp [beqL]
  | a :: as, b :: bs, h => by
    rw [beqL, beqL_len (ds := as) (es := bs) (fun z => h (by simp [z])), Bool.and_false]
theorem kins_get : ∀ {ds es : List D} {i : Nat} {d e : D}, kins ds es = true → ds[i]? = some d → es[i]? = some e → kin d e = true
  | [], _, _, _, _, _, h, _ => by simp at h
  | _ :: _, [], _, _, _, _, _, h => by simp at h
  | a :: as, b :: bs, 0, d, e, h, h1, h2 => by
    simp at h1 h2
    subst h1 h2
    rw [kins, Bool.and_eq_true] at h
    exact h.1
  | a :: as, b :: bs, i + 1, d, e, h, h1, h2 => by
    rw [kins, Bool.and_eq_true] at h
    exact kins_get (i := i) h.2 (by simpa using h1) (by simpa using h2)
theorem dep_get : ∀ {ds : List D} {i : Nat} {d : D}, ds[i]? = some d → dep d ≤ depL ds
  | [], _, _, h => by simp at h
  | a :: as, 0, d, h => by simp at h; subst h; rw [depL]; exact Nat.le_max_left _ _
  | a :: as, i + 1, d, h => by
    rw [depL]
    exact Nat.le_trans (dep_get (i := i) (by simpa using h)) (Nat.le_max_right _ _)
section
variable {X : Cx} {pins : List (Addr × Obj)} {σ : L2.St} {H : Hp} {s : Shared}
theorem Is.same (I : Inv X pins σ H s) : ∀ (n : Nat) {v : V} {d e : D}, dep d ≤ n → kin d e = true → Is X.K H d v → Is X.K H e v → d = e := by
  intro n
  induction n with
  | zero =>
    intro v d e hn hk h h'
    rcases kin_inv hk with ⟨rfl, rfl⟩ | ⟨_, _, rfl, rfl⟩ | ⟨_, _, rfl, rfl⟩ | ⟨_, _, rfl, rfl⟩ | ⟨_, _, rfl, rfl, hk⟩ | ⟨_, _, rfl, rfl, hk⟩ <;> simp only [Is] at h h' <;> first
      | rfl
      | (rw [h] at h'; injection h' with z; rw [z]; done)
      | (rw [dep] at hn; omega)
  | succ n ih =>
    intro v d e hn hk h h'
    have go : ∀ {ds es : List D} {xs : List V}, depL ds ≤ n → kins ds es = true → IsL X.K H ds xs → IsL X.K H es xs → ds = es := by
      intro ds es xs hd hks h1 h2
      have l1 := h1.len
      have l2 := h2.len
      refine List.ext_getElem? fun i => ?_
      cases q : xs[i]? with
      | none =>
        have z : xs.length ≤ i := List.getElem?_eq_none_iff.mp q
        rw [List.getElem?_eq_none_iff.mpr (by omega), List.getElem?_eq_none_iff.mpr (by omega)]
      | some v =>
        obtain ⟨d, e1, i1⟩ := h1.get' q
        obtain ⟨e, e2, i2⟩ := h2.get' q
        rw [e1, e2, ih (Nat.le_trans (dep_get e1) hd) (kins_get hks e1 e2) i1 i2]
    rcases kin_inv hk with ⟨rfl, rfl⟩ | ⟨_, _, rfl, rfl⟩ | ⟨_, _, rfl, rfl⟩ | ⟨_, _, rfl, rfl⟩ | ⟨_, _, rfl, rfl, hk⟩ | ⟨_, _, rfl, rfl, hk⟩ <;> simp only [Is] at h h' <;> first
      | rfl
      | (rw [h] at h'; injection h' with z; rw [z]; done)
      | (rw [dep] at hn
         obtain ⟨a, xs, rfl, s1, i1⟩ := h
         obtain ⟨a', ys, e', s2, i2⟩ := h'
         cases e'
         first
         | (cases I.tuple_inj s1 s2; rw [go (by omega) hk i1 i2]; done)
         | (cases I.list_inj (.inl s1) (.inl s2); rw [go (by omega) hk i1 i2]; done))
def placeEq (ds es : List D) (j : Nat) : Bool := beqD (ds.getD j .non) (es.getD j .non)
theorem items_eq {xs ys : List V} {ds es : List D} {us vs : List Value} {A : Around} (r1 : Vals xs us) (r2 : Vals ys vs) (h1 : IsL X.K H ds xs) (h2 : IsL X.K H es ys)
    (hk : kins ds es = true) {n : Nat} (hn : depL ds ≤ n)
    (ih : ∀ (x y : V) (d e : D) (u v : Value), dep d ≤ n → Is X.K H d x → Is X.K H e y → kin d e = true → RelV x u → RelV y v → SeqAt.EqAt A s u v (beqD d e)) :
    ∀ j (q1 : j < us.toArray.size) (q2 : j < vs.toArray.size), SeqAt.EqAt A s us.toArray[j] vs.toArray[j] (placeEq ds es j) := by
  intro j q1 q2
  have e1 := r1.length
  have e2 := r2.length
  have l1 := h1.len
  have l2 := h2.len
  have p1 : j < us.length := by simpa using q1
  have p2 : j < vs.length := by simpa using q2
  have x1 : xs[j]? = some (xs[j]'(by omega)) := List.getElem?_eq_getElem _
  have y1 : ys[j]? = some (ys[j]'(by omega)) := List.getElem?_eq_getElem _
  obtain ⟨d, d1, i1⟩ := h1.get' x1
  obtain ⟨e, c1, i2⟩ := h2.get' y1
  obtain ⟨u, hu, ru⟩ := r1.get x1
  obtain ⟨v, hv, rv⟩ := r2.get y1
  have z1 : us.toArray[j] = u := by
    have : us[j]? = some (us[j]'p1) := List.getElem?_eq_getElem _
    rw [hu] at this
    simpa using (Option.some.inj this).symm
  have z2 : vs.toArray[j] = v := by
    have : vs[j]? = some (vs[j]'p2) := List.getElem?_eq_getElem _
    rw [hv] at this
    simpa using (Option.some.inj this).symm
  rw [z1, z2]
  unfold placeEq
  rw [List.getD_eq_getElem?_getD, List.getD_eq_getElem?_getD, d1, c1]
  exact ih _ _ _ _ u v (Nat.le_trans (dep_get d1) hn) i1 i2 (kins_get hk d1 c1) ru rv
theorem all_is {xs ys : List V} {ds es : List D} {us vs : List Value} (r1 : Vals xs us) (r2 : Vals ys vs) (h1 : IsL X.K H ds xs) (h2 : IsL X.K H es ys) :
    ((List.range (min us.toArray.size vs.toArray.size)).all (placeEq ds es) && us.toArray.size == vs.toArray.size) = beqL ds es := by
  have e1 := r1.length
  have e2 := r2.length
  have l1 := h1.len
  have l2 := h2.len
  simp only [List.size_toArray]
  by_cases hl : us.length = vs.length
  · rw [← hl, Nat.min_self, beq_self_eq_true, Bool.and_true, ← e1, l1]
    exact beqL_all ds es (by omega)
  · rw [beqL_len (by omega), show (us.length == vs.length) = false by simpa using hl, Bool.and_false]
theorem rc_tup3 {a b : Addr} {xs ys : List V} {ds es : List D} {A : Around} (I : Inv X pins σ H s) (hx : SqT X.K H a xs) (hy : SqT X.K H b ys) (h1 : IsL X.K H ds xs) (h2 : IsL X.K H es ys) (hu : A.units < cLine)
    (hk : kins ds es = true) {n : Nat} (hn : depL ds ≤ n)
    (ih : ∀ (x y : V) (d e : D) (u v : Value), dep d ≤ n → Is X.K H d x → Is X.K H e y → kin d e = true → RelV x u → RelV y v → SeqAt.EqAt A.in1 s u v (beqD d e)) : SeqAt.RcAt A s (.ref a) (.ref b) (beqL ds es) := by
  obtain ⟨us, r1, t1, _⟩ := I.tuple hx
  obtain ⟨vs, r2, t2, _⟩ := I.tuple hy
  have z := SeqAt.RcAt.tuples (show s.heap.IsTuple a us.toArray from t1) (show s.heap.IsTuple b vs.toArray from t2) hu (items_eq r1 r2 h1 h2 hk hn ih)
  rw [all_is r1 r2 h1 h2] at z
  exact z
theorem rc_lst3 {a b : Addr} {xs ys : List V} {ds es : List D} {A : Around} (I : Inv X pins σ H s) (hx : SqL X.K H a xs) (hy : SqL X.K H b ys) (h1 : IsL X.K H ds xs) (h2 : IsL X.K H es ys) (hu : A.units < cLine)
    (hk : kins ds es = true) {n : Nat} (hn : depL ds ≤ n)
    (ih : ∀ (x y : V) (d e : D) (u v : Value), dep d ≤ n → Is X.K H d x → Is X.K H e y → kin d e = true → RelV x u → RelV y v → SeqAt.EqAt A.in1 s u v (beqD d e)) : SeqAt.RcAt A s (.ref a) (.ref b) (beqL ds es) := by
  obtain ⟨us, r1, t1, _⟩ := I.list hx
  obtain ⟨vs, r2, t2, _⟩ := I.list hy
  have e1 := r1.length
  have e2 := r2.length
  have l1 := h1.len
  have l2 := h2.len
  by_cases hl : us.length = vs.length
  · have z := SeqAt.RcAt.lists t1.isList t2.isList (by simpa using hl) hu (items_eq r1 r2 h1 h2 hk hn ih)
    have q : (List.range us.toArray.size).all (placeEq ds es) = beqL ds es := by
      simp only [List.size_toArray]
      rw [← e1, l1]
      exact beqL_all ds es (by omega)
    rw [q] at z
    exact z
  · rw [beqL_len (by omega)]
    exact SeqAt.RcAt.lists_lengths t1.isList t2.isList (by simpa using hl) hu
theorem ne_tup3 {a b : Addr} {xs ys : List V} {ds es : List D} {A : Around} (I : Inv X pins σ H s) (hx : SqT X.K H a xs) (hy : SqT X.K H b ys) (h1 : IsL X.K H ds xs) (h2 : IsL X.K H es ys) (hu : A.units < cLine)
    (hk : kins ds es = true) {n : Nat} (hn : depL ds ≤ n)
    (ih : ∀ (x y : V) (d e : D) (u v : Value), dep d ≤ n → Is X.K H d x → Is X.K H e y → kin d e = true → RelV x u → RelV y v → SeqAt.EqAt A.in1 s u v (beqD d e)) : SeqAt.RcNeAt A s (.ref a) (.ref b) (!beqL ds es) := by
  obtain ⟨us, r1, t1, _⟩ := I.tuple hx
  obtain ⟨vs, r2, t2, _⟩ := I.tuple hy
  have z := SeqAt.RcNeAt.tuples (show s.heap.IsTuple a us.toArray from t1) (show s.heap.IsTuple b vs.toArray from t2) hu (items_eq r1 r2 h1 h2 hk hn ih)
  rw [all_is r1 r2 h1 h2] at z
  exact z
theorem ne_lst3 {a b : Addr} {xs ys : List V} {ds es : List D} {A : Around} (I : Inv X pins σ H s) (hx : SqL X.K H a xs) (hy : SqL X.K H b ys) (h1 : IsL X.K H ds xs) (h2 : IsL X.K H es ys) (hu : A.units < cLine)
    (hk : kins ds es = true) {n : Nat} (hn : depL ds ≤ n)
    (ih : ∀ (x y : V) (d e : D) (u v : Value), dep d ≤ n → Is X.K H d x → Is X.K H e y → kin d e = true → RelV x u → RelV y v → SeqAt.EqAt A.in1 s u v (beqD d e)) : SeqAt.RcNeAt A s (.ref a) (.ref b) (!beqL ds es) := by
  obtain ⟨us, r1, t1, _⟩ := I.list hx
  obtain ⟨vs, r2, t2, _⟩ := I.list hy
  have e1 := r1.length
  have e2 := r2.length
  have l1 := h1.len
  have l2 := h2.len
  by_cases hl : us.length = vs.length
  · have z := SeqAt.RcNeAt.lists t1.isList t2.isList (by simpa using hl) hu (items_eq r1 r2 h1 h2 hk hn ih)
    have q : (List.range us.toArray.size).all (placeEq ds es) = beqL ds es := by
      simp only [List.size_toArray]
      rw [← e1, l1]
      exact beqL_all ds es (by omega)
    rw [q] at z
    exact z
  · rw [beqL_len (by omega)]
    exact SeqAt.RcNeAt.lists_lengths t1.isList t2.isList (by simpa using hl) hu
theorem pln_of_kin : ∀ (n : Nat) {d e : D}, dep d ≤ n → kin d e = true → d = e → pln d = true := by
  intro n
  induction n with
  | zero => intro d e hn hk he; subst he; cases d <;> simp [kin] at hk <;> first | (simp [pln]; done) | (rw [dep] at hn; omega)
  | succ n ih =>
    intro d e hn hk he
    subst he
    have go : ∀ {ds : List D}, depL ds ≤ n → kins ds ds = true → plnL ds = true := by
      intro ds
      induction ds with
      | nil => intro _ _; simp [plnL]
      | cons a as ih2 =>
        intro hd hks
        rw [depL] at hd
        rw [kins, Bool.and_eq_true] at hks
        rw [plnL, ih (by omega) hks.1 rfl, ih2 (by omega) hks.2]; rfl
    cases d <;> simp [kin] at hk <;> first
      | (simp [pln]; done)
      | (rw [dep] at hn; rw [pln]; exact go (by omega) hk)
theorem eq_is3 (I : Inv X pins σ H s) : ∀ (n : Nat) (A : Around), A.units + n < cLine → ∀ (x y : V) (d e : D) (u v : Value), dep d ≤ n → Is X.K H d x → Is X.K H e y → kin d e = true → RelV x u → RelV y v → SeqAt.EqAt A s u v (beqD d e) := by
  intro n
  induction n with
  | zero =>
    intro A hA x y d e u v hn hx hy hk rx ry
    rcases kin_inv hk with ⟨rfl, rfl⟩ | ⟨_, _, rfl, rfl⟩ | ⟨_, _, rfl, rfl⟩ | ⟨_, _, rfl, rfl⟩ | ⟨_, _, rfl, rfl, hk⟩ | ⟨_, _, rfl, rfl, hk⟩ <;> simp only [Is] at hx hy <;> first
      | (subst hx hy; cases rx; cases ry; rw [beqD]; exact SeqAt.EqAt.same _)
      | (subst hx hy; cases rx; cases ry; rw [beqD]; exact SeqAt.EqAt.bool_bool _ _)
      | (subst hx hy; obtain ⟨t, rfl⟩ := rx; obtain ⟨t', rfl⟩ := ry; rw [beqD]; exact SeqAt.EqAt.int_int _ _ _ _)
      | (subst hx hy; obtain ⟨t, rfl⟩ := rx; obtain ⟨t', rfl⟩ := ry; rw [beqD]; exact SeqAt.EqAt.str_str _ _ _ _)
      | (rw [dep] at hn; omega)
  | succ n ih =>
    intro A hA x y d e u v hn hx hy hk rx ry
    have hu : A.units < cLine := by omega
    have hA' : A.in1.units + n < cLine := by
      show A.units + 1 + n < cLine
      omega
    by_cases hxy : d = e ∧ x = y
    · obtain ⟨rfl, rfl⟩ := hxy
      have hp := pln_of_kin (n + 1) hn hk rfl
      rw [beqD_refl hp]
      cases d <;> simp [kin] at hk <;> simp only [Is] at hx <;> first
        | (subst hx; cases rx; cases ry; exact SeqAt.EqAt.same _)
        | (subst hx; obtain ⟨t, rfl⟩ := rx; obtain ⟨t', rfl⟩ := ry; have z := SeqAt.EqAt.int_int (A := A) (s := s) (by assumption) t (by assumption) t'; simpa using z)
        | (subst hx; rename_i i; obtain ⟨t, rfl⟩ := rx; obtain ⟨t', rfl⟩ := ry; have z := SeqAt.EqAt.int_int (A := A) (s := s) i t i t'; simpa using z)
        | (subst hx; rename_i i; obtain ⟨t, rfl⟩ := rx; obtain ⟨t', rfl⟩ := ry; have z := SeqAt.EqAt.str_str (A := A) (s := s) i t i t'; simpa using z)
        | (obtain ⟨a, xs, rfl, _, _⟩ := hx; cases rx; cases ry; exact SeqAt.EqAt.same _)
    · have key := fun (x y : V) (d e : D) (u v : Value) p q r s' t w => ih A.in1 hA' x y d e u v p q r s' t w
      have sm := fun (h : x = y) => Is.same I (n + 1) hn hk hx (h ▸ hy)
      rcases kin_inv hk with ⟨rfl, rfl⟩ | ⟨_, _, rfl, rfl⟩ | ⟨_, _, rfl, rfl⟩ | ⟨_, _, rfl, rfl⟩ | ⟨_, _, rfl, rfl, hk⟩ | ⟨_, _, rfl, rfl, hk⟩ <;> simp only [Is] at hx hy <;> first
        | (subst hx hy; cases rx; cases ry; rw [beqD]; exact SeqAt.EqAt.same _)
        | (subst hx hy; cases rx; cases ry; rw [beqD]; exact SeqAt.EqAt.bool_bool _ _)
        | (subst hx hy; obtain ⟨t, rfl⟩ := rx; obtain ⟨t', rfl⟩ := ry; rw [beqD]; exact SeqAt.EqAt.int_int _ _ _ _)
        | (subst hx hy; obtain ⟨t, rfl⟩ := rx; obtain ⟨t', rfl⟩ := ry; rw [beqD]; exact SeqAt.EqAt.str_str _ _ _ _)
        | (rw [dep] at hn
           obtain ⟨a, xs, rfl, s1, i1⟩ := hx
           obtain ⟨b, ys, rfl, s2, i2⟩ := hy
           cases rx; cases ry
           have hab : a ≠ b := fun z => hxy ⟨sm (by rw [z]), by rw [z]⟩
           rw [beqD]
           first
           | exact SeqAt.EqAt.of_refs hab (rc_tup3 I s1 s2 i1 i2 hu hk (by omega) key)
           | exact SeqAt.EqAt.of_refs hab (rc_lst3 I (.inl s1) (.inl s2) i1 i2 hu hk (by omega) key))
end
def rEq3 (K : PySem.W.Frag) (neg : Bool) : R2 := fun x y H Q => ∃ d e, Is K H d x ∧ Is K H e y ∧ kin d e = true ∧ dep d ≤ 60 ∧ Q (.bl (if neg then !beqD d e else beqD d e)) H
section
variable {X : Cx}
theorem op_eq3 (hu : X.A.units + 64 < cLine) : OpR X (compareOp .Eq) (rEq3 X.K false) := by
  intro pins s σ H x y v u Q I rx ry h
  obtain ⟨d, e, h1, h2, hk, hn, q⟩ := h
  have hu0 : X.A.units < cLine := by omega
  have key := fun (x y : V) (d e : D) (u v : Value) p q r s' t w => eq_is3 (s := s) I 60 X.A.in1 (by show X.A.units + 1 + 60 < cLine; omega) x y d e u v p q r s' t w
  have sc : scal x y = true → (decide (x = y)) = beqD d e → wpAny (model X.prog X.w) X.A (compareOp .Eq v u) (EP X pins σ Q) X.xe s := fun hs hb =>
    op_eq pins s σ H x y v u Q I rx ry ⟨hs, by rw [hb]; exact q⟩
  rcases kin_inv hk with ⟨rfl, rfl⟩ | ⟨_, _, rfl, rfl⟩ | ⟨_, _, rfl, rfl⟩ | ⟨_, _, rfl, rfl⟩ | ⟨_, _, rfl, rfl, hk⟩ | ⟨_, _, rfl, rfl, hk⟩ <;> simp only [Is] at h1 h2 <;> first
    | (subst h1 h2; exact sc rfl (by first | (simp [beqD]; done) | (rw [beqD, Bool.eq_iff_iff]; simp)))
    | (rw [dep] at hn
       obtain ⟨a, xs, rfl, s1, i1⟩ := h1
       obtain ⟨b, ys, rfl, s2, i2⟩ := h2
       cases rx; cases ry
       simp only [beqD, Bool.false_eq_true, if_false] at q
       first
       | exact rc_tup3 (A := X.A) I s1 s2 i1 i2 hu0 hk (by omega) key X.prog X.w X.xe _ ⟨.bl _, H, I, rfl, q⟩
       | exact rc_lst3 (A := X.A) I (.inl s1) (.inl s2) i1 i2 hu0 hk (by omega) key X.prog X.w X.xe _ ⟨.bl _, H, I, rfl, q⟩)
theorem op_ne3 (hu : X.A.units + 64 < cLine) : OpR X (compareOp .NotEq) (rEq3 X.K true) := by
  intro pins s σ H x y v u Q I rx ry h
  obtain ⟨d, e, h1, h2, hk, hn, q⟩ := h
  have hu0 : X.A.units < cLine := by omega
  have key := fun (x y : V) (d e : D) (u v : Value) p q r s' t w => eq_is3 (s := s) I 60 X.A.in1 (by show X.A.units + 1 + 60 < cLine; omega) x y d e u v p q r s' t w
  have sc : scal x y = true → (decide (x = y)) = beqD d e → wpAny (model X.prog X.w) X.A (compareOp .NotEq v u) (EP X pins σ Q) X.xe s := fun hs hb =>
    op_ne pins s σ H x y v u Q I rx ry ⟨hs, by rw [hb]; exact q⟩
  rcases kin_inv hk with ⟨rfl, rfl⟩ | ⟨_, _, rfl, rfl⟩ | ⟨_, _, rfl, rfl⟩ | ⟨_, _, rfl, rfl⟩ | ⟨_, _, rfl, rfl, hk⟩ | ⟨_, _, rfl, rfl, hk⟩ <;> simp only [Is] at h1 h2 <;> first
    | (subst h1 h2; exact sc rfl (by first | (simp [beqD]; done) | (rw [beqD, Bool.eq_iff_iff]; simp)))
    | (rw [dep] at hn
       obtain ⟨a, xs, rfl, s1, i1⟩ := h1
       obtain ⟨b, ys, rfl, s2, i2⟩ := h2
       cases rx; cases ry
       simp only [beqD, if_true] at q
       first
       | exact ne_tup3 (A := X.A) I s1 s2 i1 i2 hu0 hk (by omega) key X.prog X.w X.xe _ ⟨.bl _, H, I, rfl, q⟩
       | exact ne_lst3 (A := X.A) I (.inl s1) (.inl s2) i1 i2 hu0 hk (by omega) key X.prog X.w X.xe _ ⟨.bl _, H, I, rfl, q⟩)
end
end L3
set_option Elab.async false
set_option linter.all false
set_option maxRecDepth 100000
set_option maxHeartbeats 4000000
namespace L3
open PySem PySem.Spec PySem.Calls PyProof.Rows L2
def C3 (X : Cx) (Γ : List (Option D)) (a : Expr) (op : CmpOp) (b : Expr) (k : Bool) : Prop := ∃ (r : R2) (ta tb : TE), OpR X (compareOp op) r ∧ PE X a ta ∧ PE X b tb ∧
  ∀ (σ : L2.St) (H : Hp) (Q : VK), (∃ F, Same F H ∧ Sl X.K F Γ σ ∧ ∀ H' F', Pur F H F' H' → Q (.bl k) H') → tOp r ta tb σ H Q
section
variable {X : Cx} {Γ : List (Option D)} {a b c : Expr} {d d' : D} {pos : Pos} {op : CmpOp} {k : Bool}
theorem p_cmp (h : C3 X Γ a op b k) (hm : behindInMarks op b = false := by first | exact nomark _ | with_unfolding_all rfl) : P3 X Γ (.Compare a [op] [b] pos) (.bl k) := by
  obtain ⟨r, ta, tb, ho, ha, hb, q⟩ := h
  exact PE.of (pe_cmpR ho ha hb hm) fun σ H Q ⟨F, fh, sl, kk⟩ => q σ H Q ⟨F, fh, sl, fun H' F' p => kk _ H' F' p (i_bl _)⟩
theorem t_cmp (h : C3 X Γ a op b k) (hm : behindInMarks op b = false := by first | exact nomark _ | with_unfolding_all rfl) : PT3 X Γ (.Compare a [op] [b] pos) k := by
  obtain ⟨r, ta, tb, ho, ha, hb, q⟩ := h
  exact PT.of (pt_cmpR ho ha hb hm) fun σ H Q ⟨F, fh, sl, kk⟩ => q σ H _ ⟨F, fh, sl, fun H' F' p => ⟨k, rfl, kk H' F' p⟩⟩
theorem c_R {r : R2} (ho : OpR X (compareOp op) r) (ha : P3 X Γ a d) (hb : P3 X Γ b d') (hr : ∀ x y H F Q, Same F H → Is X.K F d x → Is X.K F d' y → Q (.bl k) H → r x y H Q) : C3 X Γ a op b k :=
  ⟨r, _, _, ho, ha, hb, fun σ H Q ⟨F, fh, sl, q⟩ => tP2 ⟨F, fh, sl, fun x y H2 F2 p i1 i2 => hr x y H2 F2 Q p.fh i1 i2 (q H2 F2 p)⟩⟩
variable {i j : Int}
theorem c_I {g : Int → Int → Bool} (ho : OpR X (compareOp op) (rI0 fun i j => .bl (g i j))) (ha : P3 X Γ a (.int i)) (hb : P3 X Γ b (.int j)) : C3 X Γ a op b (g i j) :=
  c_R ho ha hb fun x y H F Q fh i1 i2 q => ⟨i, j, isI i1, isI i2, q⟩
theorem c_lt (ha : P3 X Γ a (.int i)) (hb : P3 X Γ b (.int j)) : C3 X Γ a .Lt b (decide (i < j)) := c_I op_lt ha hb
theorem c_le (ha : P3 X Γ a (.int i)) (hb : P3 X Γ b (.int j)) : C3 X Γ a .LtE b (decide (i ≤ j)) := c_I op_le ha hb
theorem c_gt (ha : P3 X Γ a (.int i)) (hb : P3 X Γ b (.int j)) : C3 X Γ a .Gt b (decide (j < i)) := c_I op_gt ha hb
theorem c_ge (ha : P3 X Γ a (.int i)) (hb : P3 X Γ b (.int j)) : C3 X Γ a .GtE b (decide (j ≤ i)) := c_I op_ge ha hb
theorem c_eqI (ha : P3 X Γ a (.int i)) (hb : P3 X Γ b (.int j)) : C3 X Γ a .Eq b (decide (i = j)) :=
  c_R op_eq ha hb fun x y H F Q fh i1 i2 q => by
    cases isI i1; cases isI i2
    exact ⟨rfl, by simpa only [V.int.injEq] using q⟩
theorem c_neI (ha : P3 X Γ a (.int i)) (hb : P3 X Γ b (.int j)) : C3 X Γ a .NotEq b (!decide (i = j)) :=
  c_R op_ne ha hb fun x y H F Q fh i1 i2 q => by
    cases isI i1; cases isI i2
    exact ⟨rfl, by simpa only [V.int.injEq] using q⟩
theorem c_eqS {i j : Str} (ha : P3 X Γ a (.str i)) (hb : P3 X Γ b (.str j)) : C3 X Γ a .Eq b (decide (i = j)) :=
  c_R op_eq ha hb fun x y H F Q fh i1 i2 q => by
    cases isS i1; cases isS i2
    exact ⟨rfl, by simpa only [V.str.injEq] using q⟩
theorem c_neS {i j : Str} (ha : P3 X Γ a (.str i)) (hb : P3 X Γ b (.str j)) : C3 X Γ a .NotEq b (!decide (i = j)) :=
  c_R op_ne ha hb fun x y H F Q fh i1 i2 q => by
    cases isS i1; cases isS i2
    exact ⟨rfl, by simpa only [V.str.injEq] using q⟩
theorem c_eqB {i j : Bool} (ha : P3 X Γ a (.bl i)) (hb : P3 X Γ b (.bl j)) : C3 X Γ a .Eq b (decide (i = j)) :=
  c_R op_eq ha hb fun x y H F Q fh i1 i2 q => by
    cases isB i1; cases isB i2
    exact ⟨rfl, by simpa only [V.bl.injEq] using q⟩
theorem c_eq (hu : X.A.units + 64 < cLine) (ha : P3 X Γ a d) (hb : P3 X Γ b d') (hk : kin d d' = true) (hd : dep d ≤ 60) : C3 X Γ a .Eq b (beqD d d') :=
  c_R (op_eq3 hu) ha hb fun x y H F Q fh i1 i2 q => ⟨d, d', i1.mono fh, i2.mono fh, hk, hd, q⟩
theorem c_ne (hu : X.A.units + 64 < cLine) (ha : P3 X Γ a d) (hb : P3 X Γ b d') (hk : kin d d' = true) (hd : dep d ≤ 60) : C3 X Γ a .NotEq b (!beqD d d') :=
  c_R (op_ne3 hu) ha hb fun x y H F Q fh i1 i2 q => ⟨d, d', i1.mono fh, i2.mono fh, hk, hd, q⟩
theorem c_isN (ha : P3 X Γ a d) (hb : P3 X Γ b .non) {k : Bool} (hk : ∀ F x, Is X.K F d x → decide (x = V.non) = k) : C3 X Γ a .Is b k :=
  c_R op_isN ha hb fun x y H F Q fh i1 i2 q => ⟨isN i2, by rw [hk F x i1]; exact q⟩
theorem t_val {e : Expr} (h : P3 X Γ e (.bl k)) (he : ∀ whole, isTrue e X.env whole = (do let v ← whole; standAt e.pos; holding [v] (truthy v)) := by intro _; rfl) : PT3 X Γ e k :=
  PT.of (pt_val h he) fun σ H Q ⟨F, fh, sl, q⟩ => ⟨F, fh, sl, fun v H' F' p i => ⟨k, isB i, q H' F' p⟩⟩
theorem t_not (h : PT3 X Γ a k) : PT3 X Γ (.UnaryOp .Not a pos) (!k) := PT.of (pt_not h) fun σ H Q ⟨F, fh, sl, q⟩ => ⟨F, fh, sl, q⟩
def PW3 (X : Cx) (Γ : List (Option D)) (e : Expr) (k : Bool) : Prop := PW X e (tPT X.K Γ k)
theorem PW.of {X : Cx} {e : Expr} {t u : TT} (h : PW X e t) (i : ∀ σ H Q, u σ H Q → t σ H Q) : PW X e u := fun w pins s σ H Q I hq => h w pins s σ H Q I (i _ _ _ hq)
theorem PW3.t {e : Expr} (h : PW3 X Γ e k) : PT3 X Γ e k := PW.pt h
theorem tw_and1 (h : PT3 X Γ a k) : PW3 X Γ (.BoolOp .And [a] pos) k := pw_and1 h
theorem tw_or1 (h : PT3 X Γ a k) : PW3 X Γ (.BoolOp .Or [a] pos) k := pw_or1 h
theorem pw_no {e : Expr} : PW X e fun _ _ _ => False := fun _ _ _ _ _ _ _ h => h.elim
theorem pe_no {e : Expr} : PE X e fun _ _ _ => False := fun _ _ _ _ _ _ h => h.elim
variable {k' : Bool} {rest : List Expr}
theorem tw_and (ha : PT3 X Γ a k) (hb : k = true → PW3 X Γ (.BoolOp .And (b :: rest) pos) k') : PW3 X Γ (.BoolOp .And (a :: b :: rest) pos) (k && k') := by
  cases k with
  | true => exact PW.of (pw_and ha (hb rfl)) fun σ H Q ⟨F, fh, sl, q⟩ => ⟨F, fh, sl, fun H' F' p => by dsimp only; rw [if_pos rfl]; exact ⟨F', p.fh, sl.mono p.ff, fun H2 F2 p2 => q H2 F2 (p.trans p2)⟩⟩
  | false => exact PW.of (pw_and ha pw_no) fun σ H Q ⟨F, fh, sl, q⟩ => ⟨F, fh, sl, fun H' F' p => by dsimp only; rw [if_neg Bool.false_ne_true]; exact q H' F' p⟩
theorem tw_or (ha : PT3 X Γ a k) (hb : k = false → PW3 X Γ (.BoolOp .Or (b :: rest) pos) k') : PW3 X Γ (.BoolOp .Or (a :: b :: rest) pos) (k || k') := by
  cases k with
  | false => exact PW.of (pw_or ha (hb rfl)) fun σ H Q ⟨F, fh, sl, q⟩ => ⟨F, fh, sl, fun H' F' p => by dsimp only; rw [if_neg Bool.false_ne_true]; exact ⟨F', p.fh, sl.mono p.ff, fun H2 F2 p2 => q H2 F2 (p.trans p2)⟩⟩
  | true => exact PW.of (pw_or ha pw_no) fun σ H Q ⟨F, fh, sl, q⟩ => ⟨F, fh, sl, fun H' F' p => by dsimp only; rw [if_pos rfl]; exact q H' F' p⟩
theorem p_one {op : BoolOp} (h : P3 X Γ a d) : P3 X Γ (.BoolOp op [a] pos) d := pe_one h
theorem p_and (ha : P3 X Γ a (.bl k)) (hb : k = true → P3 X Γ (.BoolOp .And (b :: rest) pos) (.bl k')) : P3 X Γ (.BoolOp .And (a :: b :: rest) pos) (.bl (k && k')) := by
  cases k with
  | true => exact PE.of (pe_and ha (hb rfl)) fun σ H Q ⟨F, fh, sl, q⟩ => ⟨F, fh, sl, fun v H' F' p i => ⟨true, isB i, by rw [if_pos rfl]; exact ⟨F', p.fh, sl.mono p.ff, fun v2 H2 F2 p2 i2 => q v2 H2 F2 (p.trans p2) i2⟩⟩⟩
  | false => exact PE.of (pe_and ha pe_no) fun σ H Q ⟨F, fh, sl, q⟩ => ⟨F, fh, sl, fun v H' F' p i => ⟨false, isB i, by dsimp only; rw [if_neg Bool.false_ne_true]; exact q _ H' F' p (i_bl F')⟩⟩
theorem p_or (ha : P3 X Γ a (.bl k)) (hb : k = false → P3 X Γ (.BoolOp .Or (b :: rest) pos) (.bl k')) : P3 X Γ (.BoolOp .Or (a :: b :: rest) pos) (.bl (k || k')) := by
  cases k with
  | false => exact PE.of (pe_or ha (hb rfl)) fun σ H Q ⟨F, fh, sl, q⟩ => ⟨F, fh, sl, fun v H' F' p i => ⟨false, isB i, by rw [if_neg Bool.false_ne_true]; exact ⟨F', p.fh, sl.mono p.ff, fun v2 H2 F2 p2 i2 => q v2 H2 F2 (p.trans p2) i2⟩⟩⟩
  | true => exact PE.of (pe_or ha pe_no) fun σ H Q ⟨F, fh, sl, q⟩ => ⟨F, fh, sl, fun v H' F' p i => ⟨true, isB i, by dsimp only; rw [if_pos rfl]; exact q _ H' F' p (i_bl F')⟩⟩
theorem p_not (ha : P3 X Γ a (.bl k)) : P3 X Γ (.UnaryOp .Not a pos) (.bl (!k)) := PE.of (pe_not ha) fun σ H Q ⟨F, fh, sl, q⟩ => ⟨F, fh, sl, fun v H' F' p i => ⟨k, isB i, q _ H' F' p (i_bl F')⟩⟩
end
def spP (K : PySem.W.Frag) (n : Nat) (C : List D → D → Prop) : Sp := fun vs H Q _ => ∃ ds d F, C ds d ∧ ds.length = n ∧ Same F H ∧ IsL K F ds vs ∧ ∀ v H' F', Pur F H F' H' → Is K F' d v → Q v H'
theorem spP.len {K : PySem.W.Frag} {n : Nat} {C : List D → D → Prop} {vs : List V} {H : Hp} {Q : VK} {E : XK} (h : spP K n C vs H Q E) : vs.length = n := by
  obtain ⟨ds, d, F, _, l, _, i, _⟩ := h
  rw [i.len, l]
section
variable {X : Cx} {Γ : List (Option D)} {d : D} {ds : List D} {n k : Nat} {C : List D → D → Prop} {x : Str} {ps : List Str} {e : Expr} {es : List Expr} {p pos : Pos}
theorem p_call (o : OkF X.prog X.w X.K X.mg X.base CX0 k x ps (spP X.K n C)) (hr : Room k X.A) (hg : Gl X x) (ha : PL3 X Γ (e :: es) ds) (hC : C ds d) (hn : ds.length = n := by rfl) (hdb : (x == ("__debug__" : Str)) = false := by decide)
    (he : starEach (e :: es) X.env = (false, eval e X.env) :: starEach es X.env := by rfl) (hpl : (backTo pos (starEach es X.env)).any (·.1) = false := by rfl) : P3 X Γ (.Call (.Name x p) (e :: es) [] pos) d :=
  PE.of (pe_fn o hr hg ha hdb he hpl) fun σ H Q ⟨F, fh, sl, q⟩ => ⟨F, fh, sl, fun vs H' F' pu i => by
    dsimp only
    rw [List.append_nil]
    exact ⟨ds, d, F', hC, hn, pu.fh, i, fun v H2 F2 p2 i2 => q v H2 F2 (pu.trans p2) i2⟩⟩
theorem p_callB {id : String} {r : List V → Hp → VK → Prop} (hc : CallR X (.builtin id) r) (hg : Gl X x) (hm : X.mg x = none) (hv : bootBuiltins x = some (.builtin id)) (ha : PL3 X Γ (e :: es) ds)
    (hr : ∀ vs H F Q, Same F H → IsL X.K F ds vs → (∀ v H' F', Pur F H F' H' → Is X.K F' d v → Q v H') → r vs H Q) (hn : x ≠ "__name__" := by decide) (hdb : (x == ("__debug__" : Str)) = false := by decide)
    (he : starEach (e :: es) X.env = (false, eval e X.env) :: starEach es X.env := by rfl) (hpl : (backTo pos (starEach es X.env)).any (·.1) = false := by rfl) : P3 X Γ (.Call (.Name x p) (e :: es) [] pos) d :=
  PE.of (pe_callB hc hg hm hv ha hn hdb he hpl) fun σ H Q ⟨F, fh, sl, q⟩ => ⟨F, fh, sl, fun vs H' F' pu i => hr vs H' F' Q pu.fh i fun v H2 F2 p2 i2 => q v H2 F2 (pu.trans p2) i2⟩
end
end L3
set_option Elab.async false
set_option linter.all false
set_option maxRecDepth 100000
set_option maxHeartbeats 4000000
namespace L3
open PySem PySem.Spec PySem.Calls PyProof.Rows L2
theorem p_callTy {X : Cx} {Γ : List (Option D)} {d : D} {ds : List D} {x : Str} {e : Expr} {es : List Expr} {p pos : Pos} {T : String} {r : List V → Hp → VK → Prop} (hc : CallR X (.type T) r) (hg : Gl X x) (hm : X.mg x = none) (hv : bootBuiltins x = some (.type T)) (ha : PL3 X Γ (e :: es) ds)
    (hr : ∀ vs H F Q, Same F H → IsL X.K F ds vs → (∀ v H' F', Pur F H F' H' → Is X.K F' d v → Q v H') → r vs H Q) (hn : x ≠ "__name__" := by decide) (hdb : (x == ("__debug__" : Str)) = false := by decide)
    (he : starEach (e :: es) X.env = (false, eval e X.env) :: starEach es X.env := by rfl) (hpl : (backTo pos (starEach es X.env)).any (·.1) = false := by rfl) : P3 X Γ (.Call (.Name x p) (e :: es) [] pos) d :=
  PE.of (pe_callTy hc hg hm hv ha hn hdb he hpl) fun σ H Q ⟨F, fh, sl, q⟩ => ⟨F, fh, sl, fun vs H' F' pu i => hr vs H' F' Q pu.fh i fun v H2 F2 p2 i2 => q v H2 F2 (pu.trans p2) i2⟩
theorem isL1 {K : PySem.W.Frag} {F : Hp} {d : D} {vs : List V} (h : IsL K F [d] vs) : ∃ x, vs = [x] ∧ Is K F d x := by
  simp only [IsL] at h
  obtain ⟨x, r, rfl, i, rfl⟩ := h
  exact ⟨x, rfl, i⟩
theorem isL2 {K : PySem.W.Frag} {F : Hp} {d e : D} {vs : List V} (h : IsL K F [d, e] vs) : ∃ x y, vs = [x, y] ∧ Is K F d x ∧ Is K F e y := by
  simp only [IsL] at h
  obtain ⟨x, r, rfl, i, y, r2, rfl, i2, rfl⟩ := h
  exact ⟨x, y, rfl, i, i2⟩
theorem kin_symm : ∀ (n : Nat) {d e : D}, dep d ≤ n → kin d e = true → kin e d = true := by
  intro n
  induction n with
  | zero => intro d e hn hk; rcases kin_inv hk with ⟨rfl, rfl⟩ | ⟨_, _, rfl, rfl⟩ | ⟨_, _, rfl, rfl⟩ | ⟨_, _, rfl, rfl⟩ | ⟨_, _, rfl, rfl, hk⟩ | ⟨_, _, rfl, rfl, hk⟩ <;> rw [kin] <;> (rw [dep] at hn; omega)
  | succ n ih =>
    intro d e hn hk
    have go : ∀ {ds es : List D}, depL ds ≤ n → kins ds es = true → kins es ds = true := by
      intro ds
      induction ds with
      | nil => intro es _ _; cases es <;> simp [kins]
      | cons a as ih2 =>
        intro es hd hks
        cases es with
        | nil => simp [kins]
        | cons b bs =>
          rw [depL] at hd
          rw [kins, Bool.and_eq_true] at hks
          rw [kins, ih (by omega) hks.1, ih2 (by omega) hks.2]; rfl
    rcases kin_inv hk with ⟨rfl, rfl⟩ | ⟨_, _, rfl, rfl⟩ | ⟨_, _, rfl, rfl⟩ | ⟨_, _, rfl, rfl⟩ | ⟨_, _, rfl, rfl, hk⟩ | ⟨_, _, rfl, rfl, hk⟩ <;> rw [kin] <;> (rw [dep] at hn; exact go (by omega) hk)
def rCat3 (K : PySem.W.Frag) : R2 := fun x y H Q => ∃ l b xs zs, x = .ref l ∧ y = .ref b ∧ SqL K H l xs ∧ SqL K H b zs ∧ xs.length + zs.length ≤ sizeLine ∧ ∀ p, H p = none → Q (.ref p) (upd H p (.lst (xs ++ zs)))
section
variable {X : Cx}
theorem op_cat3 : OpR X (binaryOp .Add) (rCat3 X.K) := by
  intro pins s σ H x y v u Q I rx ry h
  obtain ⟨l, b, xs, zs, rfl, rfl, hH, hB, hz, q⟩ := h
  cases rx
  cases ry
  obtain ⟨its, r, ⟨o, n, e, c, dd, d⟩, z⟩ := I.list hH
  obtain ⟨its2, r2, ⟨o2, n2, e2, c2, dd2, d2⟩, z2⟩ := I.list hB
  obtain ⟨oc, od, odt, osl⟩ := o
  obtain ⟨oc2, od2, odt2, osl2⟩ := o2
  dsimp only at c dd d c2 dd2 d2
  subst c dd d c2 dd2 d2
  have hl := r.length
  have hl2 := r2.length
  have ea : its.toArray ++ its2.toArray = (its ++ its2).toArray := by simp
  refine concat_meets ⟨_, e, rfl⟩ ⟨_, e2, rfl⟩ noFill_list_add seq_list_add PySem.F.slot_list_add PySem.F.entry_list_add (PySem.F.args_list_add_2 _ _) (list_addW l b its.toArray its2.toArray n n2 none none osl osl2 (by rw [List.size_toArray, List.size_toArray]; omega)) ⟨e, e2, ?_⟩
  rw [ea]
  exact ⟨.ref _, _, I.lnew (t' := s.toks) (r.append r2) (by rw [List.length_append]; omega), rfl, q _ I.fresh⟩
def dTy : D → Option Value
  | .non => some (.type "NoneType")
  | .bl _ => some (.type "bool")
  | .int _ => some (.type "int")
  | .str _ => some (.type "str")
  | .tup _ => some (.type "tuple")
  | .lst _ => some (.type "list")
  | .dk _ _ => some (.type "dict")
  | .dt _ _ => some (.type "dict")
  | _ => none
theorem call_isin3 : CallR X (.builtin "isinstance") (fun xs H Q => ∃ x c d t b, xs = [x, c] ∧ Is X.K H d x ∧ dTy d = some t ∧ PySem.W.kitOne X.K t (cV c) = some b ∧ cV c ≠ .none ∧ Q (.bl b) H) := by
  intro pins s σ H xs us Q I r h
  obtain ⟨x, c, d, t, b, rfl, hi, ht, hk, hc, q⟩ := h
  obtain ⟨u, v, rfl, r1, r2⟩ := vals2 r
  rw [rel_cV r2 hc]
  have fin : ∀ tk, EP X pins σ Q (.bool b) { s with toks := tk } := fun tk => ⟨.bl b, H, I.tok _, rfl, q⟩
  cases d with
  | non => simp only [Is] at hi; subst hi; cases ht; exact isinst_ok I r1 .non hk fin
  | bl y => simp only [Is] at hi; subst hi; cases ht; exact isinst_ok I r1 (.bl y) hk fin
  | int y => simp only [Is] at hi; subst hi; cases ht; exact isinst_ok I r1 (.int y) hk fin
  | str y => simp only [Is] at hi; subst hi; cases ht; exact isinst_ok I r1 (.str y) hk fin
  | raw y => cases ht
  | obj C fs ds => cases ht
  | exc C => cases ht
  | scr ns => cases ht
  | tup ds =>
    simp only [Is] at hi
    obtain ⟨a, xs, rfl, h1, _⟩ := hi
    cases ht
    cases r1
    obtain ⟨its, _, ⟨o, e, c', _⟩, _⟩ := I.tuple h1
    exact PySem.W.kia_one PySem.W.kitx_tuple I.kIn ⟨o, e, c'⟩ hk (fun z => nomatch z) fin
  | lst ds =>
    simp only [Is] at hi
    obtain ⟨a, xs, rfl, h1, _⟩ := hi
    cases ht
    cases r1
    obtain ⟨its, _, p, _⟩ := I.list (.inl h1)
    obtain ⟨o, e, c', _⟩ := p.isList
    exact PySem.W.kia_one PySem.W.kitx_list I.kIn ⟨o, e, c'⟩ hk (fun z => nomatch z) fin
  | dk ks ds =>
    simp only [Is] at hi
    obtain ⟨a, xs, rfl, h1, _⟩ := hi
    cases ht
    exact isinst_ok I r1 (.dK h1) hk fin
  | dt ks ds =>
    simp only [Is] at hi
    obtain ⟨a, xs, rfl, h1, _⟩ := hi
    cases ht
    exact isinst_ok I r1 (.dT h1) hk fin
theorem call_sum3 (hc : X.calm = true) : CallR X (.builtin "sum") (fun xs H Q => ∃ (a : Addr) (ns : List Int), xs = [.ref a] ∧ SqL X.K H a (ns.map V.int) ∧ Q (.int ns.sum) H) := by
  intro pins s σ H xs us Q I r h
  obtain ⟨a, ns, rfl, hl, q⟩ := h
  obtain ⟨u, rfl, rx⟩ := vals1 r
  cases rx
  obtain ⟨its, rv, p, _⟩ := I.list hl
  have hi : IntsAre its ns := intsAre_of rv
  obtain ⟨ys, hx⟩ := hi.allInts.items
  have hl' : s.heap.IsList a (intItems ys) := hx ▸ p.isList
  refine sum_intListG (I.ok.hd hc) hl' fun h' tk t' hk => ?_
  have e1 : ns = ys.toList.map (·.1) := by
    rw [← nums_intItems, ← hx]
    exact (show numsOf its.toArray.toList = ns from hi.numsOf).symm
  have e2 : preSum (numAt ys) ys.size = ns.sum := by
    rw [preSum_eq, List.take_of_length_le (by simp), e1]
  rw [e2]
  exact ⟨.int ns.sum, H, I.kept hk, ⟨_, rfl⟩, q⟩
def inD (x : D) (ds : List D) : Bool := ds.any fun y => beqD y x
def rIn3 (K : PySem.W.Frag) (neg : Bool) : R2 := fun x y H Q => ∃ p xs d ds, y = .ref p ∧ (SqL K H p xs ∨ SqT K H p xs) ∧ IsL K H ds xs ∧ Is K H d x ∧ (∀ e ∈ ds, kin e d = true ∧ dep e ≤ 60) ∧ Q (.bl (if neg then !inD d ds else inD d ds)) H
open Classical in
/-- an item's answer, read off its value -/
noncomputable def ansOf (K : PySem.W.Frag) (H : Hp) (d : D) (ds : List D) (u : Value) : Bool := decide (∃ (e : D) (x : V), e ∈ ds ∧ RelV x u ∧ Is K H e x ∧ beqD e d = true)
open Classical in
theorem ans_iff {K : PySem.W.Frag} {H : Hp} {d : D} {ds : List D} {u : Value} : ansOf K H d ds u = true ↔ ∃ (e : D) (x : V), e ∈ ds ∧ RelV x u ∧ Is K H e x ∧ beqD e d = true := by
  unfold ansOf
  exact decide_eq_true_iff
theorem ans_any {K : PySem.W.Frag} {H : Hp} {d : D} {es : List D} : ∀ {ds : List D} {xs : List V} {us : List Value}, (∀ e ∈ ds, e ∈ es) → IsL K H ds xs → Vals xs us → (∀ e e' x, e ∈ es → e' ∈ es → Is K H e x → Is K H e' x → beqD e d = beqD e' d) →
    us.any (ansOf K H d es) = ds.any fun y => beqD y d
  | [], _, _, _, h, r, _ => by simp only [IsL] at h; subst h; cases r; rfl
  | e :: ds, _, _, hm, h, r, hs => by
    simp only [IsL] at h
    obtain ⟨x, xs, rfl, i, h⟩ := h
    cases r with
    | cons r1 r =>
      rename_i u us
      rw [List.any_cons, List.any_cons, ans_any (fun e' q => hm e' (List.mem_cons_of_mem _ q)) h r hs]
      congr 1
      rw [Bool.eq_iff_iff, ans_iff]
      constructor
      · rintro ⟨e', x', m, r2, i2, b⟩
        cases r2.inj r1
        rw [← b]
        exact hs _ _ _ (hm e (by simp)) m i i2
      · intro b
        exact ⟨e, x, hm e (by simp), r1, i, b⟩
theorem in_core {pins : List (Addr × Obj)} {s : Shared} {σ : L2.St} {H : Hp} {x : V} {v : Value} {xs : List V} {d : D} {ds : List D} {its : List Value} (hu : X.A.units + 64 < cLine) (I : Inv X pins σ H s) (rx : RelV x v) (hi : IsL X.K H ds xs) (hd : Is X.K H d x)
    (hk : ∀ e ∈ ds, kin e d = true ∧ dep e ≤ 60) (r : Vals xs its) : (∀ w ∈ its, SeqAt.EqAt X.A.in1 s w v (ansOf X.K H d ds w)) ∧ its.toArray.any (ansOf X.K H d ds) = inD d ds := by
  have key := fun (x y : V) (d e : D) (u v : Value) p q r s' t w => eq_is3 (s := s) I 60 X.A.in1 (by show X.A.units + 1 + 60 < cLine; omega) x y d e u v p q r s' t w
  have one : ∀ e e' x', e ∈ ds → e' ∈ ds → Is X.K H e x' → Is X.K H e' x' → beqD e d = beqD e' d := fun e e' x' m m' i i' => by
    obtain ⟨k1, n1⟩ := hk e m
    obtain ⟨k2, n2⟩ := hk e' m'
    by_cases b : beqD e d = true
    · have ee := beqD_eq b
      subst ee
      have k3 : kin e e' = true := kin_symm 60 n2 k2
      rw [Is.same I 60 n1 k3 i i']
    · by_cases b' : beqD e' d = true
      · have ee := beqD_eq b'
        subst ee
        rw [Is.same I 60 n1 k1 i i']
      · rw [Bool.eq_false_iff.mpr b, Bool.eq_false_iff.mpr b']
  refine ⟨fun w hw => ?_, ?_⟩
  · obtain ⟨i, hl, rfl⟩ := List.getElem_of_mem hw
    have hx : i < xs.length := by rw [r.length]; exact hl
    have x1 : xs[i]? = some xs[i] := List.getElem?_eq_getElem hx
    obtain ⟨w', e1, r1⟩ := r.get x1
    rw [List.getElem?_eq_getElem hl] at e1
    cases e1
    obtain ⟨e, e2, i2⟩ := hi.get' x1
    have m := List.mem_of_getElem? e2
    have z := key _ _ _ _ _ _ (hk e m).2 i2 hd (hk e m).1 r1 rx
    have : ansOf X.K H d ds its[i] = beqD e d := by
      rw [Bool.eq_iff_iff, ans_iff]
      constructor
      · rintro ⟨e', x', m', r2, i3, b⟩
        cases r2.inj r1
        rw [← b]
        exact one _ _ _ m m' i2 i3
      · intro b
        exact ⟨e, _, m, r1, i2, b⟩
    rw [this]
    exact z
  · rw [show its.toArray.any (ansOf X.K H d ds) = its.any (ansOf X.K H d ds) by simp, ans_any (fun _ z => z) hi r one]
    rfl
theorem op_in3 (hu : X.A.units + 64 < cLine) : OpR X (compareOp .In) (rIn3 X.K false) := by
  intro pins s σ H x y v u Q I rx ry h
  obtain ⟨p, xs, d, ds, rfl, hq, hi, hd, hk, q⟩ := h
  cases ry
  rcases hq with hq | hq
  · obtain ⟨its, r, pl, hz⟩ := I.list hq
    obtain ⟨c1, c2⟩ := in_core hu I rx hi hd hk r
    refine SeqAt.in_listAt (ansOf X.K H d ds) pl.isList (fun w hw => c1 w (by simpa using hw)) ⟨.bl _, H, I, rfl, ?_⟩
    rw [c2]
    exact q
  · obtain ⟨its, r, pl, hz⟩ := I.tuple hq
    obtain ⟨c1, c2⟩ := in_core hu I rx hi hd hk r
    refine SeqAt.in_tupleAt (ansOf X.K H d ds) pl (fun w hw => c1 w (by simpa using hw)) ⟨.bl _, H, I, rfl, ?_⟩
    rw [c2]
    exact q
theorem op_notIn3 (hu : X.A.units + 64 < cLine) : OpR X (compareOp .NotIn) (rIn3 X.K true) := by
  intro pins s σ H x y v u Q I rx ry h
  obtain ⟨p, xs, d, ds, rfl, hq, hi, hd, hk, q⟩ := h
  cases ry
  rcases hq with hq | hq
  · obtain ⟨its, r, pl, hz⟩ := I.list hq
    obtain ⟨c1, c2⟩ := in_core hu I rx hi hd hk r
    refine SeqAt.notIn_listAt (ansOf X.K H d ds) pl.isList (fun w hw => c1 w (by simpa using hw)) ⟨.bl _, H, I, rfl, ?_⟩
    rw [c2]
    exact q
  · obtain ⟨its, r, pl, hz⟩ := I.tuple hq
    obtain ⟨c1, c2⟩ := in_core hu I rx hi hd hk r
    refine SeqAt.notIn_tupleAt (ansOf X.K H d ds) pl (fun w hw => c1 w (by simpa using hw)) ⟨.bl _, H, I, rfl, ?_⟩
    rw [c2]
    exact q
def rCatT3 (K : PySem.W.Frag) : R2 := fun x y H Q => ∃ a b xs ys, x = .ref a ∧ y = .ref b ∧ SqT K H a xs ∧ SqT K H b ys ∧ xs.length + ys.length ≤ sizeLine ∧
  (xs = [] → Q (.ref b) H) ∧ (ys = [] → Q (.ref a) H) ∧ ∀ p, H p = none → Q (.ref p) (upd H p (.tup (xs ++ ys)))
theorem op_catT3 : OpR X (binaryOp .Add) (rCatT3 X.K) := by
  intro pins s σ H x y v u Q I rx ry h
  obtain ⟨a, b, xs, ys, rfl, rfl, ha, hb, hz, q0, q1, q2⟩ := h
  by_cases hx : xs = []
  · cases rx
    cases ry
    obtain ⟨its, r1, p1, _⟩ := I.tuple ha
    obtain ⟨its2, r2, p2, _⟩ := I.tuple hb
    obtain ⟨⟨cls, dd, data, sl⟩, ho, hc, n, hd⟩ := id p1
    obtain ⟨⟨cls2, dd2, data2, sl2⟩, ho2, hc2, n2, hd2⟩ := id p2
    simp only at hc hd hc2 hd2
    subst hc hd hc2 hd2
    exact concat_meets ⟨_, ho, rfl⟩ ⟨_, ho2, rfl⟩ noFill_tuple_add seq_tuple_add PySem.F.slot_tuple_add PySem.F.entry_tuple_add (PySem.F.args_tuple_add_2 _ _)
      (tuple_addW0 a b its.toArray its2.toArray n n2 dd dd2 sl sl2 (by simp [r1.nil_iff.mpr hx])) ⟨ho, ho2, ⟨.ref b, H, I, rfl, q0 hx⟩⟩
  · exact op_catT pins s σ H _ _ v u Q I rx ry ⟨a, b, xs, ys, rfl, rfl, ha, hb, hx, hz, q1, fun _ => q2⟩
end
section
variable {X : Cx} {Γ : List (Option D)} {a b c : Expr} {d d' : D} {pos p : Pos} {ds es : List D}
theorem isT {K : PySem.W.Frag} {F : Hp} {v : V} (h : Is K F (.tup ds) v) : ∃ a xs, v = .ref a ∧ SqT K F a xs ∧ IsL K F ds xs := by simpa only [Is] using h
theorem isLstR {K : PySem.W.Frag} {F : Hp} {v : V} (h : Is K F (.lst ds) v) : ∃ a xs, v = .ref a ∧ Rd F a (.lst xs) ∧ IsL K F ds xs := by simpa only [Is] using h
theorem isLst {K : PySem.W.Frag} {F : Hp} {v : V} (h : Is K F (.lst ds) v) : ∃ a xs, v = .ref a ∧ SqL K F a xs ∧ IsL K F ds xs := by
  obtain ⟨a, xs, e, r, i⟩ := isLstR h
  exact ⟨a, xs, e, .inl r, i⟩
theorem Is.tupI {K : PySem.W.Frag} {F : Hp} {a : Addr} {xs : List V} (h : SqT K F a xs) (i : IsL K F ds xs) : Is K F (.tup ds) (.ref a) := by simp only [Is]; exact ⟨a, xs, rfl, h, i⟩
theorem Is.lstI {K : PySem.W.Frag} {F : Hp} {a : Addr} {xs : List V} (h : Rd F a (.lst xs)) (i : IsL K F ds xs) : Is K F (.lst ds) (.ref a) := by simp only [Is]; exact ⟨a, xs, rfl, h, i⟩
theorem pf_cat (ha : P3 X Γ a (.lst ds)) (hb : P3 X Γ b (.lst es)) (hz : ds.length + es.length ≤ sizeLine) : PF3 X Γ (.BinOp a .Add b pos) (ds ++ es) :=
  PE.of (pe_op op_cat3 ha hb) fun σ H Q ⟨F, fh, sl, k⟩ => tP2 ⟨F, fh, sl, fun x y H2 F2 p i1 i2 => by
    obtain ⟨l, xs, rfl, s1, j1⟩ := isLst i1
    obtain ⟨l2, ys, rfl, s2, j2⟩ := isLst i2
    exact ⟨l, l2, xs, ys, rfl, rfl, p.fh.seq s1, p.fh.seq s2, by rw [j1.len, j2.len]; exact hz, fun q hq => k q _ _ F2 (p.trans (Pur.layOwn p.fh hq)) (p.hh.free hq) (p.fh.free hq) upd_same (j1.append j2)⟩⟩
theorem p_cat (ha : P3 X Γ a (.lst ds)) (hb : P3 X Γ b (.lst es)) (hz : ds.length + es.length ≤ sizeLine) : P3 X Γ (.BinOp a .Add b pos) (.lst (ds ++ es)) := (pf_cat ha hb hz).p
theorem p_catT (ha : P3 X Γ a (.tup ds)) (hb : P3 X Γ b (.tup es)) (hz : ds.length + es.length ≤ sizeLine) : P3 X Γ (.BinOp a .Add b pos) (.tup (ds ++ es)) :=
  p_opR op_catT3 ha hb fun x y H F Q fh i1 i2 k => by
    obtain ⟨l, xs, rfl, s1, j1⟩ := isT i1
    obtain ⟨l2, ys, rfl, s2, j2⟩ := isT i2
    have e1 := j1.len
    have e2 := j2.len
    refine ⟨l, l2, xs, ys, rfl, rfl, same_tup fh s1, same_tup fh s2, by rw [j1.len, j2.len]; exact hz, fun z => ?_, fun z => ?_, fun q hq => k _ _ _ (Pur.lay fh hq) (Is.tupI (.inl (.inl upd_same)) ((j1.append j2).mono (Pur.lay fh hq).ff))⟩
    · have : ds = [] := List.length_eq_zero_iff.mp (by rw [← e1, z]; rfl)
      subst this
      exact k _ _ _ (Pur.refl fh) (Is.tupI s2 j2)
    · have : es = [] := List.length_eq_zero_iff.mp (by rw [← e2, z]; rfl)
      subst this
      rw [List.append_nil] at k
      exact k _ _ _ (Pur.refl fh) (Is.tupI s1 j1)
theorem p_catS {x y : Str} (ha : P3 X Γ a (.str x)) (hb : P3 X Γ b (.str y)) (hz : x.length + y.length ≤ sizeLine) : P3 X Γ (.BinOp a .Add b pos) (.str (x ++ y)) :=
  p_opR op_add_str ha hb fun v w H F Q fh i1 i2 k => ⟨x, y, isS i1, isS i2, hz, k _ _ _ (Pur.refl fh) (i_str F)⟩
theorem p_lenL (hm : X.mg "len" = none) (hg : Gl X "len") (ha : P3 X Γ a (.lst ds)) (he : starEach [a] X.env = (false, eval a X.env) :: starEach [] X.env := by rfl) : P3 X Γ (.Call (.Name "len" p) [a] [] pos) (.int ds.length) :=
  p_callB call_len_seq hg hm PySem.boot_len (pl_cons ha pl_nil he) (fun vs H F Q fh i k => by
    obtain ⟨x, rfl, j0⟩ := isL1 i
    obtain ⟨l, xs, rfl, s1, j1⟩ := isLst j0
    exact ⟨l, xs, rfl, .inl (fh.seq s1), k _ _ _ (Pur.refl fh) (by rw [j1.len]; exact i_int F)⟩) (by decide) (by decide) he
theorem p_lenT (hm : X.mg "len" = none) (hg : Gl X "len") (ha : P3 X Γ a (.tup ds)) (he : starEach [a] X.env = (false, eval a X.env) :: starEach [] X.env := by rfl) : P3 X Γ (.Call (.Name "len" p) [a] [] pos) (.int ds.length) :=
  p_callB call_len_seq hg hm PySem.boot_len (pl_cons ha pl_nil he) (fun vs H F Q fh i k => by
    obtain ⟨x, rfl, j0⟩ := isL1 i
    obtain ⟨l, xs, rfl, s1, j1⟩ := isT j0
    exact ⟨l, xs, rfl, .inr (same_tup fh s1), k _ _ _ (Pur.refl fh) (by rw [j1.len]; exact i_int F)⟩) (by decide) (by decide) he
theorem p_lenI {ns : List Int} (hm : X.mg "len" = none) (hg : Gl X "len") (ha : P3 X Γ a (.scr ns)) (he : starEach [a] X.env = (false, eval a X.env) :: starEach [] X.env := by rfl) : P3 X Γ (.Call (.Name "len" p) [a] [] pos) (.int ns.length) :=
  p_callB call_len_seq hg hm PySem.boot_len (pl_cons ha pl_nil he) (fun vs H F Q fh i k => by
    obtain ⟨x, rfl, j0⟩ := isL1 i
    simp only [Is] at j0
    obtain ⟨l, rfl, s1⟩ := j0
    exact ⟨l, _, rfl, .inl (fh.seq s1), k _ _ _ (Pur.refl fh) (by rw [List.length_map]; exact i_int F)⟩) (by decide) (by decide) he
theorem p_ixI {ns : List Int} {i n : Int} (ha : P3 X Γ a (.scr ns)) (hb : P3 X Γ b (.int i)) (he : atI ns i = some n) (hs : PlainIx b := by exact fun _ _ => rfl) : P3 X Γ (.Subscript a b pos) (.int n) :=
  p_ixR ix_list ha hb (fun x y H F Q fh i1 i2 k => by
    simp only [Is] at i1 i2
    obtain ⟨l, rfl, h1⟩ := i1
    refine ⟨l, _, i, .int n, rfl, i2, fh.seq h1, ?_, k _ H F (Pur.refl fh) (i_int F)⟩
    unfold atI at he ⊢
    rw [List.length_map]
    cases q : ixN ns.length i with
    | none => rw [q] at he; cases he
    | some j =>
      rw [q] at he
      have he' : ns[j]? = some n := he
      show (ns.map V.int)[j]? = _
      rw [List.getElem?_map, he']
      rfl) hs
theorem p_lenS {x : Str} (hm : X.mg "len" = none) (hg : Gl X "len") (ha : P3 X Γ a (.str x)) (hz : x.length ≤ sizeLine) (he : starEach [a] X.env = (false, eval a X.env) :: starEach [] X.env := by rfl) : P3 X Γ (.Call (.Name "len" p) [a] [] pos) (.int x.length) :=
  p_callB call_len_str hg hm PySem.boot_len (pl_cons ha pl_nil he) (fun vs H F Q fh i k => by
    obtain ⟨v, rfl, j0⟩ := isL1 i
    exact ⟨x, by rw [isS j0], hz, k _ _ _ (Pur.refl fh) (i_int F)⟩) (by decide) (by decide) he
theorem bt_int : bootBuiltins "int" = some (.type "int") := by decide +kernel
theorem bt_bool : bootBuiltins "bool" = some (.type "bool") := by decide +kernel
theorem bt_str : bootBuiltins "str" = some (.type "str") := by decide +kernel
theorem bt_tuple : bootBuiltins "tuple" = some (.type "tuple") := by decide +kernel
theorem bt_list : bootBuiltins "list" = some (.type "list") := by decide +kernel
theorem bt_isinstance : bootBuiltins "isinstance" = some (.builtin "isinstance") := by decide +kernel
theorem bt_sum : bootBuiltins "sum" = some (.builtin "sum") := by decide +kernel
theorem pf_list (hm : X.mg "list" = none) (hg : Gl X "list") (ha : P3 X Γ a d) (hd : d = .lst ds ∨ d = .tup ds) (he : starEach [a] X.env = (false, eval a X.env) :: starEach [] X.env := by rfl) : PF3 X Γ (.Call (.Name "list" p) [a] [] pos) ds :=
  PE.of (pe_callTy call_list_of hg hm bt_list (pl_cons ha pl_nil he) (by decide) (by decide) he) fun σ H Q ⟨F, fh, sl, q⟩ => ⟨F, fh, sl, fun vs H' F' pu i => by
    obtain ⟨x, rfl, j0⟩ := isL1 i
    rcases hd with rfl | rfl
    · obtain ⟨l, xs, rfl, s1, j1⟩ := isLst j0
      exact ⟨l, xs, rfl, .inl (pu.fh.seq s1), fun l' hl => q l' _ _ F' (pu.trans (Pur.layOwn pu.fh hl)) (pu.hh.free hl) (pu.fh.free hl) upd_same j1⟩
    · obtain ⟨l, xs, rfl, s1, j1⟩ := isT j0
      exact ⟨l, xs, rfl, .inr (same_tup pu.fh s1), fun l' hl => q l' _ _ F' (pu.trans (Pur.layOwn pu.fh hl)) (pu.hh.free hl) (pu.fh.free hl) upd_same j1⟩⟩
theorem p_tupleOf (hm : X.mg "tuple" = none) (hg : Gl X "tuple") (ha : P3 X Γ a d) (hd : d = .lst ds ∨ d = .tup ds) (he : starEach [a] X.env = (false, eval a X.env) :: starEach [] X.env := by rfl) : P3 X Γ (.Call (.Name "tuple" p) [a] [] pos) (.tup ds) :=
  p_callTy call_tuple_of hg hm bt_tuple (pl_cons ha pl_nil he) (fun vs H F Q fh i k => by
    obtain ⟨x, rfl, j0⟩ := isL1 i
    rcases hd with rfl | rfl
    · obtain ⟨l, xs, rfl, s1, j1⟩ := isLst j0
      exact ⟨l, xs, rfl, .inl ⟨fh.seq s1, fun q hq => k _ _ _ (Pur.lay fh hq) (Is.tupI (.inl (.inl upd_same)) (j1.mono (Pur.lay fh hq).ff))⟩⟩
    · obtain ⟨l, xs, rfl, s1, j1⟩ := isT j0
      exact ⟨l, xs, rfl, .inr ⟨same_tup fh s1, k _ _ _ (Pur.refl fh) (Is.tupI s1 j1)⟩⟩) (by decide) (by decide) he
theorem p_sum {ns : List Int} (hc : X.calm = true) (hm : X.mg "sum" = none) (hg : Gl X "sum") (ha : P3 X Γ a (.lst (ns.map D.int))) (he : starEach [a] X.env = (false, eval a X.env) :: starEach [] X.env := by rfl) : P3 X Γ (.Call (.Name "sum" p) [a] [] pos) (.int ns.sum) :=
  p_callB (call_sum3 hc) hg hm bt_sum (pl_cons ha pl_nil he) (fun vs H F Q fh i k => by
    obtain ⟨x, rfl, j0⟩ := isL1 i
    obtain ⟨l, xs, rfl, s1, j1⟩ := isLst j0
    have e := IsL.of_ints j1
    subst e
    exact ⟨l, ns, rfl, fh.seq s1, k _ _ _ (Pur.refl fh) (i_int F)⟩) (by decide) (by decide) he
theorem p_isin {t : Value} {cv : V} {k : Bool} (hm : X.mg "isinstance" = none) (hg : Gl X "isinstance") (ha : P3 X Γ a d) (hb : P3 X Γ b (.raw cv)) (ht : dTy d = some t) (hk : PySem.W.kitOne X.K t (cV cv) = some k) (hc : cV cv ≠ .none)
    (he : starEach [a, b] X.env = (false, eval a X.env) :: starEach [b] X.env := by rfl) (he2 : starEach [b] X.env = (false, eval b X.env) :: starEach [] X.env := by rfl) (hpl : (backTo pos (starEach [b] X.env)).any (·.1) = false := by rfl) : P3 X Γ (.Call (.Name "isinstance" p) [a, b] [] pos) (.bl k) :=
  p_callB call_isin3 hg hm bt_isinstance (pl_cons ha (pl_cons hb pl_nil he2) he) (fun vs H F Q fh i q => by
    obtain ⟨x, y, rfl, i1, i2⟩ := isL2 i
    cases isR i2
    exact ⟨x, _, d, t, k, rfl, i1.mono fh, ht, hk, hc, q _ _ _ (Pur.refl fh) (i_bl F)⟩) (by decide) (by decide) he hpl
theorem c_in (hu : X.A.units + 64 < cLine) (ha : P3 X Γ a d) (hb : P3 X Γ b d') (hd : d' = .lst ds ∨ d' = .tup ds) (hk : ∀ e ∈ ds, kin e d = true ∧ dep e ≤ 60) : C3 X Γ a .In b (inD d ds) :=
  c_R (op_in3 hu) ha hb fun x y H F Q fh i1 i2 q => by
    rcases hd with rfl | rfl
    · obtain ⟨l, xs, rfl, s1, j1⟩ := isLst i2
      exact ⟨l, xs, d, ds, rfl, .inl (fh.seq s1), j1.mono fh, i1.mono fh, hk, q⟩
    · obtain ⟨l, xs, rfl, s1, j1⟩ := isT i2
      exact ⟨l, xs, d, ds, rfl, .inr (same_tup fh s1), j1.mono fh, i1.mono fh, hk, q⟩
theorem c_notIn (hu : X.A.units + 64 < cLine) (ha : P3 X Γ a d) (hb : P3 X Γ b d') (hd : d' = .lst ds ∨ d' = .tup ds) (hk : ∀ e ∈ ds, kin e d = true ∧ dep e ≤ 60) : C3 X Γ a .NotIn b (!inD d ds) :=
  c_R (op_notIn3 hu) ha hb fun x y H F Q fh i1 i2 q => by
    rcases hd with rfl | rfl
    · obtain ⟨l, xs, rfl, s1, j1⟩ := isLst i2
      exact ⟨l, xs, d, ds, rfl, .inl (fh.seq s1), j1.mono fh, i1.mono fh, hk, q⟩
    · obtain ⟨l, xs, rfl, s1, j1⟩ := isT i2
      exact ⟨l, xs, d, ds, rfl, .inr (same_tup fh s1), j1.mono fh, i1.mono fh, hk, q⟩
end
end L3
set_option Elab.async false
set_option linter.all false
set_option maxRecDepth 100000
set_option maxHeartbeats 4000000
namespace L3
open PySem PySem.Spec PySem.Calls PyProof.Rows L2
structure Bs where
  M : List Addr
  F : Hp
  H : Hp
abbrev Ow := Hp → HO → Prop
abbrev Om := List (Addr × Ow)
abbrev Ga := List (Option D)
def oLst (K : PySem.W.Frag) (ds : List D) : Ow := fun F o => ∃ xs, o = .lst xs ∧ IsL K F ds xs
structure Sat (K : PySem.W.Frag) (B : Bs) (Γ : Ga) (Ω : Om) (F : Hp) (σ : L2.St) (H : Hp) : Prop where
  f0 : Same B.F F
  fh : Same F H
  fr : ∀ b, F b ≠ none → B.F b ≠ none ∨ B.H b = none ∨ b ∈ B.M
  kp : ∀ b o, b ∉ B.M → B.H b = some o → H b = some o
  nd : (Ω.map (·.1)).Nodup
  od : ∀ p ∈ Ω, p.1 ∈ B.M ∨ B.H p.1 = none
  own : ∀ p ∈ Ω, F p.1 = none ∧ ∃ o, H p.1 = some o ∧ ∀ F', Same F F' → p.2 F' o
  sl : Sl K F Γ σ
section
variable {K : PySem.W.Frag} {B : Bs} {Γ Γ' : Ga} {Ω : Om} {F F' : Hp} {σ σ' : L2.St} {H H' : Hp}
theorem Sat.freeB (S : Sat K B Γ Ω F σ H) {b : Addr} (h : H b = none) : B.H b = none ∨ b ∈ B.M := by
  by_cases hb : b ∈ B.M
  · exact .inr hb
  · refine .inl ?_
    cases q : B.H b with
    | none => rfl
    | some o => rw [S.kp b o hb q] at h; cases h
theorem Sat.pur (S : Sat K B Γ Ω F σ H) (p : Pur F H F' H') : Sat K B Γ Ω F' σ H' where
  f0 := S.f0.trans p.ff
  fh := p.fh
  fr := fun b q => (p.new b q).elim (fun z => S.fr b z) fun z => (S.freeB z).elim (fun w => .inr (.inl w)) fun w => .inr (.inr w)
  kp := fun b o hb e => p.hh _ _ (S.kp b o hb e)
  nd := S.nd
  od := S.od
  own := fun q hq => by
    obtain ⟨h1, o, h2, h3⟩ := S.own q hq
    refine ⟨?_, o, p.hh _ _ h2, fun F2 e => h3 F2 (p.ff.trans e)⟩
    cases z : F' q.1 with
    | none => rfl
    | some u =>
      rcases p.new q.1 (by rw [z]; simp) with w | w
      · exact absurd h1 w
      · rw [h2] at w; cases w
  sl := S.sl.mono p.ff
theorem Sat.slots (S : Sat K B Γ Ω F σ H) (h : Sl K F Γ' σ') : Sat K B Γ' Ω F σ' H := ⟨S.f0, S.fh, S.fr, S.kp, S.nd, S.od, S.own, h⟩
theorem Sl.set {i : Nat} {d : D} {v : V} (h : Sl K F Γ σ) (hi : i < σ.length) (hv : Is K F d v) : Sl K F (Γ.set i (some d)) (σ.set i (some v)) := fun j e q => by
  by_cases hj : i = j
  · subst hj
    rw [List.getElem?_set] at q
    split at q
    · split at q
      · cases q
        exact ⟨v, by rw [List.getElem?_set]; simp [hi], hv⟩
      · cases q
    · contradiction
  · rw [List.getElem?_set_ne hj] at q
    obtain ⟨u, h1, h2⟩ := h j e q
    exact ⟨u, by rw [List.getElem?_set_ne hj]; exact h1, h2⟩
theorem Sl.nil : Sl K F [] σ := fun j e q => by simp at q
theorem Sat.toPur (S : Sat K B Γ Ω F σ H) (hM : B.M = []) : Pur B.F B.H F H := ⟨S.f0, S.fh, fun b o e => S.kp b o (by rw [hM]; simp) e, fun b q => (S.fr b q).elim .inl fun z => z.elim .inr fun w => by rw [hM] at w; cases w⟩
end
structure E3 where
  nx : Ga → Om → Prop
  rt : D → Om → Prop
  bk : Ga → Om → Prop := fun _ _ => False
  ct : Ga → Om → Prop := fun _ _ => False
def nX (K : PySem.W.Frag) (B : Bs) (F0 : Hp) (N : Ga → Om → Prop) : L2.St → Hp → Prop := fun σ H => ∃ Γ Ω F, Sat K B Γ Ω F σ H ∧ Same F0 F ∧ N Γ Ω
def E3.to (K : PySem.W.Frag) (B : Bs) (F0 : Hp) (E : E3) : Ends := ⟨nX K B F0 E.nx, fun v H => ∃ d Ω F, (∃ σ, Sat K B [] Ω F σ H) ∧ Same F0 F ∧ Is K F d v ∧ E.rt d Ω, nX K B F0 E.bk, nX K B F0 E.ct⟩
theorem nX.mono {K : PySem.W.Frag} {B : Bs} {F0 F1 : Hp} {N : Ga → Om → Prop} {σ : L2.St} {H : Hp} (e : Same F0 F1) (h : nX K B F1 N σ H) : nX K B F0 N σ H := by
  obtain ⟨Γ, Ω, F, S, f, n⟩ := h
  exact ⟨Γ, Ω, F, S, e.trans f, n⟩
def WS (X : Cx) (sts : List Stmt) : TS := fun D σ H => ∀ (pins : List (Addr × Obj)) (s : Shared), Inv X pins σ H s → wpAny (model X.prog X.w) X.A (execs sts X.env) (SP X pins D) X.xe s
def WE (X : Cx) (e : Expr) : TE := fun σ H Q => ∀ (pins : List (Addr × Obj)) (s : Shared), Inv X pins σ H s → wpAny (model X.prog X.w) X.A (eval e X.env) (EP X pins σ Q) X.xe s
def WT (X : Cx) (e : Expr) : TT := fun σ H Q => ∀ (pins : List (Addr × Obj)) (s : Shared), Inv X pins σ H s → wpAny (model X.prog X.w) X.A (isTrue e X.env (eval e X.env)) (TP X pins σ Q) X.xe s
theorem pss_w {X : Cx} {sts : List Stmt} : PSs X sts (WS X sts) := fun pins s σ H D I h => h pins s I
theorem pe_w {X : Cx} {e : Expr} : PE X e (WE X e) := fun pins s σ H Q I h => h pins s I
theorem pt_w {X : Cx} {e : Expr} : PT X e (WT X e) := fun pins s σ H Q I h => h pins s I
theorem PT3.wt {X : Cx} {Γ : Ga} {e : Expr} {k : Bool} (h : PT3 X Γ e k) {σ : L2.St} {H : Hp} {Q : Bool → Hp → Prop} (q : tPT X.K Γ k σ H Q) : WT X e σ H Q := fun pins s I => h pins s σ H Q I q
theorem P3.we {X : Cx} {Γ : Ga} {e : Expr} {d : D} (h : P3 X Γ e d) {σ : L2.St} {H : Hp} {Q : VK} (q : tP X.K Γ d σ H Q) : WE X e σ H Q := fun pins s I => h pins s σ H Q I q
def W3 (X : Cx) (B : Bs) (sts : List Stmt) (Γ : Ga) (Ω : Om) (E : E3) : Prop := ∀ F σ H, Sat X.K B Γ Ω F σ H → WS X sts (E.to X.K B F) σ H
section
variable {X : Cx} {B : Bs} {Γ : Ga} {Ω : Om} {E : E3} {rest body : List Stmt} {e c : Expr} {d : D} {pos pos' : Pos} {k : Bool}
theorem ends_mono {D D' : Ends} (hn : ∀ σ H, D.nx σ H → D'.nx σ H) (hr : ∀ v H, D.rt v H → D'.rt v H) (hb : ∀ σ H, D.bk σ H → D'.bk σ H) (hc : ∀ σ H, D.ct σ H → D'.ct σ H) {σ : L2.St} {H : Hp} (h : WS X body D σ H) : WS X body D' σ H := fun pins s I =>
  thn (h pins s I) fun f s' q => by
    cases f with
    | next => obtain ⟨σ', H', I', q⟩ := q; exact ⟨σ', H', I', hn _ _ q⟩
    | brk => obtain ⟨σ', H', I', q⟩ := q; exact ⟨σ', H', I', hb _ _ q⟩
    | cont => obtain ⟨σ', H', I', q⟩ := q; exact ⟨σ', H', I', hc _ _ q⟩
    | ret u => obtain ⟨v, σ', H', I', r, q⟩ := q; exact ⟨v, σ', H', I', r, hr _ _ q⟩
theorem to_mono {F0 F1 : Hp} (e : Same F0 F1) {σ : L2.St} {H : Hp} (h : WS X body (E.to X.K B F1) σ H) : WS X body (E.to X.K B F0) σ H :=
  ends_mono (D := E.to X.K B F1) (D' := E.to X.K B F0) (fun _ _ q => q.mono e) (fun v H ⟨d, Ω, F, S, f, i, r⟩ => ⟨d, Ω, F, S, e.trans f, i, r⟩) (fun _ _ q => q.mono e) (fun _ _ q => q.mono e) h
theorem w_nil (h : E.nx Γ Ω) : W3 X B [] Γ Ω E := fun F σ H S pins s I => pss_nil pins s σ H _ I ⟨Γ, Ω, F, S, Same.refl _, h⟩
theorem w_set {i : Nat} {x : Str} (hN : X.N.Nodup) (hi : X.N[i]? = some x) (hx : Loc X.env.scope x) (he : P3 X Γ e d) (h : W3 X B rest (Γ.set i (some d)) Ω E) (hs : swapsWith e (some (.Name x pos')) pos.line X.env = pure false := by rfl)
    (hf : X.fn x = true ∨ X.env.scope.names.lookup x = some .local := by first | exact .inl rfl | exact .inr rfl | assumption) : W3 X B (.Assign [.Name x pos'] e pos :: rest) Γ Ω E := fun F σ H S pins s I =>
  pss_cons (ps_set hN hi hx he hs hf) pss_w pins s σ H _ I ⟨F, S.fh, S.sl, fun v H' F' p i' => to_mono p.ff (h F' _ H' ((S.pur p).slots (Sl.set (S.sl.mono p.ff) (by rw [I.len]; exact (List.getElem?_eq_some_iff.mp hi).1) i')))⟩
theorem w_ret (he : P3 X Γ e d) (h : E.rt d Ω) : W3 X B (.Return (some e) pos :: rest) Γ Ω E := fun F σ H S pins s I =>
  pss_cons (ps_ret he) pss_never pins s σ H _ I ⟨F, S.fh, S.sl, fun v H' F' p i' => ⟨d, Ω, F', ⟨σ, (S.pur p).slots Sl.nil⟩, p.ff, i', h⟩⟩
theorem w_expr (he : P3 X Γ e d) (h : W3 X B rest Γ Ω E) (hs : swapsWith e none pos.line X.env = pure false := by rfl) : W3 X B (.Expr e pos :: rest) Γ Ω E := fun F σ H S pins s I =>
  pss_cons (ps_expr he hs) pss_w pins s σ H _ I ⟨F, S.fh, S.sl, fun v H' F' p i' => to_mono p.ff (h F' _ H' (S.pur p))⟩
abbrev E3.then (E : E3) (X : Cx) (B : Bs) (rest : List Stmt) : E3 := { E with nx := fun Γ' Ω' => W3 X B rest Γ' Ω' E }
theorem nx_rest {F : Hp} {σ : L2.St} {H : Hp} (h : nX X.K B F (fun Γ' Ω' => W3 X B rest Γ' Ω' E) σ H) : WS X rest (E.to X.K B F) σ H := by
  obtain ⟨Γ', Ω', F', S, f, w⟩ := h
  exact to_mono f (w F' σ H S)
theorem seq_rest {F : Hp} {σ : L2.St} {H : Hp} (h : WS X body ((E.then X B rest).to X.K B F) σ H) : WS X body { (E.to X.K B F) with nx := WS X rest (E.to X.K B F) } σ H :=
  ends_mono (D := (E.then X B rest).to X.K B F) (D' := { (E.to X.K B F) with nx := WS X rest (E.to X.K B F) }) (fun _ _ q => nx_rest q) (fun _ _ q => q) (fun _ _ q => q) (fun _ _ q => q) h
theorem w_if {a b : List Stmt} (hc : PT3 X Γ c k) (ht : k = true → W3 X B a Γ Ω (E.then X B rest)) (hf : k = false → W3 X B b Γ Ω (E.then X B rest)) : W3 X B (.If c a b pos :: rest) Γ Ω E := fun F σ H S pins s I => by
  cases k with
  | true => exact pss_cons (ps_if hc pss_w pss_never) pss_w pins s σ H _ I ⟨F, S.fh, S.sl, fun H' F' p => iteT (seq_rest (to_mono p.ff (ht rfl F' σ H' (S.pur p))))⟩
  | false => exact pss_cons (ps_if hc pss_never pss_w) pss_w pins s σ H _ I ⟨F, S.fh, S.sl, fun H' F' p => iteF (seq_rest (to_mono p.ff (hf rfl F' σ H' (S.pur p))))⟩
theorem w_while (hp : PassesOwn (model X.prog X.w) X.A X.env X.xe) (J : Ga → Om → Prop) (μ : Ga → Om → Nat) (h0 : J Γ Ω)
    (step : ∀ Γ Ω, J Γ Ω → ∃ k, PT3 X Γ c k ∧ (k = true → W3 X B body Γ Ω { E with nx := fun Γ' Ω' => J Γ' Ω' ∧ μ Γ' Ω' < μ Γ Ω, ct := fun Γ' Ω' => J Γ' Ω' ∧ μ Γ' Ω' < μ Γ Ω, bk := fun Γ' Ω' => W3 X B rest Γ' Ω' E }) ∧ (k = false → W3 X B rest Γ Ω E)) :
    W3 X B (.While c body [] pos :: rest) Γ Ω E := fun F σ H S pins s I => by
  refine pss_cons (ps_while hp pt_w pss_w) pss_w pins s σ H _ I ⟨fun m σ H => ∃ Γ Ω F1, Sat X.K B Γ Ω F1 σ H ∧ Same F F1 ∧ J Γ Ω ∧ μ Γ Ω = m, ⟨_, Γ, Ω, F, S, Same.refl _, h0, rfl⟩, ?_⟩
  rintro m σ H ⟨Γ, Ω, F1, S, f1, j, rfl⟩
  obtain ⟨k, hc, ht, hf⟩ := step Γ Ω j
  refine hc.wt ⟨F1, S.fh, S.sl, fun H' F' p => ?_⟩
  cases k with
  | true =>
    refine iteT ⟨nX X.K B F fun Γ' Ω' => J Γ' Ω' ∧ μ Γ' Ω' < μ Γ Ω, ?_, ends_mono (D := E3.to X.K B F { E with nx := fun Γ' Ω' => J Γ' Ω' ∧ μ Γ' Ω' < μ Γ Ω, ct := fun Γ' Ω' => J Γ' Ω' ∧ μ Γ' Ω' < μ Γ Ω, bk := fun Γ' Ω' => W3 X B rest Γ' Ω' E })
      (D' := { nx := nX X.K B F fun Γ' Ω' => J Γ' Ω' ∧ μ Γ' Ω' < μ Γ Ω, rt := (E.to X.K B F).rt, bk := WS X rest (E.to X.K B F), ct := nX X.K B F fun Γ' Ω' => J Γ' Ω' ∧ μ Γ' Ω' < μ Γ Ω }) (fun _ _ q => q) (fun _ _ q => q) (fun _ _ q => nx_rest q) (fun _ _ q => q) (to_mono (f1.trans p.ff) (ht rfl F' σ H' (S.pur p)))⟩
    rintro σ' H' ⟨Γ', Ω', F', S', f', j', l⟩
    exact ⟨_, l, Γ', Ω', F', S', f', j', rfl⟩
  | false => exact iteF (to_mono (f1.trans p.ff) (hf rfl F' σ H' (S.pur p)))
end
def G3 (X : Cx) (tg : Expr) (Γ : Ga) (d : D) (Γ' : Ga) : Prop := ∃ g, PG X tg g ∧ ∀ (F : Hp) (σ : L2.St) (H : Hp) (v : V) (Q : L2.St → Hp → Prop), Same F H → Is X.K F d v → Sl X.K F Γ σ → σ.length = X.N.length → (∀ σ', Sl X.K F Γ' σ' → σ'.length = X.N.length → Q σ' H) → g v σ H Q
def GL3 (X : Cx) (tg : List Expr) (Γ : Ga) (ds : List D) (Γ' : Ga) : Prop := ∃ g, PGs X tg g ∧ ∀ (F : Hp) (σ : L2.St) (H : Hp) (vs : List V) (Q : L2.St → Hp → Prop), Same F H → IsL X.K F ds vs → Sl X.K F Γ σ → σ.length = X.N.length → (∀ σ', Sl X.K F Γ' σ' → σ'.length = X.N.length → Q σ' H) → g vs σ H Q
section
variable {X : Cx} {Γ Γ1 Γ2 : Ga} {d : D} {ds : List D} {pos : Pos} {tg : Expr} {tgs : List Expr}
theorem g_name {i : Nat} {x : Str} (hN : X.N.Nodup) (hi : X.N[i]? = some x) (hx : Loc X.env.scope x) (hf : X.fn x = true ∨ X.env.scope.names.lookup x = some .local := by first | exact .inl rfl | exact .inr rfl | assumption) : G3 X (.Name x pos) Γ d (Γ.set i (some d)) :=
  ⟨_, pg_name hN hi hx hf, fun F σ H v Q fh iv sl hl q => q _ (sl.set (by rw [hl]; exact (List.getElem?_eq_some_iff.mp hi).1) iv) (by rw [List.length_set]; exact hl)⟩
theorem gl_nil : GL3 X [] Γ [] Γ := ⟨_, pgs_nil, fun F σ H vs Q fh iv sl hl q => by
  simp only [IsL] at iv
  exact ⟨iv, q σ sl hl⟩⟩
theorem gl_cons (h1 : G3 X tg Γ d Γ1) (h2 : GL3 X tgs Γ1 ds Γ2) (hs : ∀ {g : TG} {u : TGs}, PG X tg g → PGs X tgs u → PGs X (tg :: tgs) (gCons g u) := by exact fun a b => pgs_cons a b) : GL3 X (tg :: tgs) Γ (d :: ds) Γ2 := by
  obtain ⟨g, p1, q1⟩ := h1
  obtain ⟨u, p2, q2⟩ := h2
  refine ⟨_, hs p1 p2, fun F σ H vs Q fh iv sl hl q => ?_⟩
  simp only [IsL] at iv
  obtain ⟨x, r, rfl, i1, i2⟩ := iv
  exact ⟨x, r, rfl, q1 F σ H x _ fh i1 sl hl fun σ' sl' hl' => q2 F σ' H r _ fh i2 sl' hl' q⟩
theorem g_tup {k : Nat} (hc : X.calm = true) (h : GL3 X tgs Γ ds Γ1) (hn : (assignEach tgs X.env).length = ds.length := by rfl) (hst : (assignEach tgs X.env).findIdx? (·.1) = none := by rfl) : G3 X (.Tuple tgs k pos) Γ (.tup ds) Γ1 := by
  obtain ⟨g, p, q⟩ := h
  refine ⟨_, pg_tup hc p hn hst, fun F σ H v Q fh iv sl hl k => ?_⟩
  obtain ⟨a, xs, rfl, h1, h2⟩ := isT iv
  exact ⟨a, xs, rfl, same_tup fh h1, h2.len, q F σ H xs Q fh h2 sl hl k⟩
end
def Walk3 (K : PySem.W.Frag) (F0 : Hp) (J : It) (ds : List D) : Prop := ∀ (i : Nat) (F H : Hp), Same F0 F → Same F H →
  (∀ d, ds[i]? = some d → J.go i H ∧ ∀ x H', J.yld i H x H' → ∃ F', Pur F H F' H' ∧ Is K F' d x) ∧ (ds.length ≤ i → J.stop i H)
def I3 (X : Cx) (Γ : Ga) (tg iter : Expr) (ds : List D) : Prop := PI X tg iter fun σ H R => ∃ F, Same F H ∧ Sl X.K F Γ σ ∧ ∀ J H' F', Pur F H F' H' → Walk3 X.K F' J ds → R J H'
theorem PI.of {X : Cx} {tg e : Expr} {t u : TI} (h : PI X tg e t) (i : ∀ σ H R, u σ H R → t σ H R) : PI X tg e u := fun pins s σ H Q I hq => h pins s σ H Q I (i _ _ _ hq)
section
variable {X : Cx} {Γ Γ1 : Ga} {d : D} {ds es : List D} {pos p : Pos} {tg a b : Expr}
theorem i_list (hl : P3 X Γ a (.lst ds)) : I3 X Γ tg a ds := PI.of (pi_list hl) fun σ H R ⟨F, fh, sl, q⟩ => ⟨F, fh, sl, fun v H' F' p i => by
  obtain ⟨l, xs, rfl, s1, j1⟩ := isLst i
  refine ⟨l, rfl, ⟨xs, p.fh.seq s1⟩, q _ H' F' p fun n F2 H2 e1 e2 => ⟨fun d w => ?_, fun w => ⟨xs, (e1.trans e2).seq s1, by rw [j1.len]; exact w⟩⟩⟩
  obtain ⟨x, hx, ix⟩ := j1.get w
  refine ⟨⟨xs, x, (e1.trans e2).seq s1, hx⟩, fun y H3 ⟨z, w'⟩ => ?_⟩
  subst z
  have := w' xs ((e1.trans e2).seq s1)
  rw [hx] at this
  cases this
  exact ⟨F2, Pur.refl e2, ix.mono e1⟩⟩
theorem i_tup (hl : P3 X Γ a (.tup ds)) : I3 X Γ tg a ds := PI.of (pi_tup hl) fun σ H R ⟨F, fh, sl, q⟩ => ⟨F, fh, sl, fun v H' F' p i => by
  obtain ⟨l, xs, rfl, s1, j1⟩ := isT i
  refine ⟨l, rfl, ⟨xs, same_tup p.fh s1⟩, q _ H' F' p fun n F2 H2 e1 e2 => ⟨fun d w => ?_, fun w => ⟨xs, same_tup (e1.trans e2) s1, by rw [j1.len]; exact w⟩⟩⟩
  obtain ⟨x, hx, ix⟩ := j1.get w
  refine ⟨⟨xs, x, same_tup (e1.trans e2) s1, hx⟩, fun y H3 ⟨z, w'⟩ => ?_⟩
  subst z
  have := w' xs (same_tup (e1.trans e2) s1)
  rw [hx] at this
  cases this
  exact ⟨F2, Pur.refl e2, ix.mono e1⟩⟩
def rngD (lo : Int) (n : Nat) : List D := (List.range n).map fun (j : Nat) => .int (lo + (j : Int))
theorem walk_rng {K : PySem.W.Frag} {F0 : Hp} {lo : Int} {n : Nat} : Walk3 K F0 (Itr lo n) (rngD lo n) := fun i F H e1 e2 =>
  ⟨fun d q => by
    unfold rngD at q
    rw [List.getElem?_map] at q
    have hi : i < n := by
      by_cases h : i < n
      · exact h
      · rw [List.getElem?_eq_none_iff.mpr (by simpa using h)] at q; cases q
    rw [List.getElem?_range hi] at q
    cases q
    refine ⟨hi, fun x H' ⟨z, w⟩ => ?_⟩
    subst z w
    exact ⟨F, Pur.refl e2, i_int F⟩, fun q => by
    unfold rngD at q
    have q' : n ≤ i := by simpa using q
    exact q'⟩
theorem i_range1 {j : Int} (hm : X.mg "range" = none) (hg : Gl X "range") (ha : P3 X Γ a (.int j)) (h1 : -(2 ^ 62) ≤ j) (h2 : j < 2 ^ 62) (hs : starEach [a] X.env = [(false, eval a X.env)] := by rfl) : I3 X Γ tg (.Call (.Name "range" p) [a] [] pos) (rngD 0 j.toNat) :=
  PI.of (pi_range1 hg hm (pl_cons ha pl_nil hs) hs) fun σ H R ⟨F, fh, sl, q⟩ => ⟨F, fh, sl, fun vs H' F' pu i => by
    obtain ⟨x, rfl, j0⟩ := isL1 i
    exact ⟨j, by rw [isI j0], h1, h2, q _ H' F' pu walk_rng⟩⟩
def zipD (ds es : List D) : List D := (ds.zip es).map fun p => .tup [p.1, p.2]
theorem i_zip {es' : List Expr} {x1 : Nat} {tpos : Pos} (hm : X.mg "zip" = none) (hg : Gl X "zip") (ha : P3 X Γ a (.lst ds)) (hb : P3 X Γ b (.lst es)) (hs : starEach [a, b] X.env = [(false, eval a X.env), (false, eval b X.env)] := by rfl) (hs2 : starEach [b] X.env = [(false, eval b X.env)] := by rfl) :
    I3 X Γ (.Tuple es' x1 tpos) (.Call (.Name "zip" p) [a, b] [] pos) (zipD ds es) :=
  PI.of (pi_zip hg hm (pl_cons ha (pl_cons hb pl_nil hs2) (hs.trans (by rw [hs2]))) hs hs2) fun σ H R ⟨F, fh, sl, q⟩ => ⟨F, fh, sl, fun vs H' F' pu iv => by
    obtain ⟨x, y, rfl, j0, j00⟩ := isL2 iv
    obtain ⟨l, xs, rfl, s1, j1⟩ := isLst j0
    obtain ⟨l2, ys, rfl, s2, j2⟩ := isLst j00
    refine ⟨l, l2, xs, ys, rfl, pu.fh.seq s1, pu.fh.seq s2, q _ H' F' pu fun n F2 H2 e1 e2 => ⟨fun d w => ?_, fun w => ?_⟩⟩
    · unfold zipD at w
      rw [List.getElem?_map] at w
      cases z : (ds.zip es)[n]? with
      | none => rw [z] at w; cases w
      | some d0 =>
        rw [z] at w
        cases w
        obtain ⟨z1, z2⟩ := List.getElem?_zip_eq_some.mp z
        obtain ⟨x, hx, ix⟩ := j1.get z1
        obtain ⟨y, hy, iy⟩ := j2.get z2
        have h1 := (e1.trans e2).seq s1
        have h2 := (e1.trans e2).seq s2
        refine ⟨⟨xs, ys, x, y, h1, h2, hx, hy⟩, fun v H3 ⟨T, x', y', hT, hv, hx', hy', e3⟩ => ?_⟩
        subst hv e3
        have t1 := hx' xs h1
        have t2 := hy' ys h2
        rw [hx] at t1
        rw [hy] at t2
        cases t1
        cases t2
        refine ⟨_, Pur.lay e2 hT, Is.tupI (.inl (.inl upd_same)) (IsL.cons (ix.mono (e1.trans (Pur.lay e2 hT).ff)) (IsL.cons (iy.mono (e1.trans (Pur.lay e2 hT).ff)) IsL.nil))⟩
    · unfold zipD at w
      rw [List.length_map, List.length_zip] at w
      refine ⟨xs, ys, (e1.trans e2).seq s1, (e1.trans e2).seq s2, ?_⟩
      rw [j1.len, j2.len]
      omega⟩
theorem w_for {B : Bs} {Ω : Om} {E : E3} {rest body : List Stmt} {iter : Expr} (hp : PassesOwn (model X.prog X.w) X.A X.env X.xe) (hc : X.calm = true) (hi : I3 X Γ tg iter ds) (J : Nat → Ga → Om → Prop) (h0 : J 0 Γ Ω)
    (step : ∀ i d Γ Ω, ds[i]? = some d → J i Γ Ω → ∃ Γ1, G3 X tg Γ d Γ1 ∧ W3 X B body Γ1 Ω { E with nx := J (i + 1), ct := J (i + 1), bk := fun Γ' Ω' => W3 X B rest Γ' Ω' E })
    (hd : ∀ Γ Ω, J ds.length Γ Ω → W3 X B rest Γ Ω E) (hs : ∀ x, foldedSetIterable iter X.env x = pure x := by intro _; rfl) : W3 X B (.For tg iter body [] pos :: rest) Γ Ω E := fun F σ H S pins s I => by
  have hgw : PG X tg (fun v σ H Q => ∀ (pins : List (Addr × Obj)) (s : Shared) (u : Value), Inv X pins σ H s → RelV v u → wpAny (model X.prog X.w) X.A (assign tg X.env u) (fun _ s' => ∃ σ' H', Inv X pins σ' H' s' ∧ Q σ' H') X.xe s) := fun pins s σ H v u Q I r h => h pins s u I r
  refine pss_cons (ps_for hp hc hi hgw pss_w hs) pss_w pins s σ H _ I ⟨F, S.fh, S.sl, fun Jt H1 F1 p w => ⟨fun i m σ H => i + m = ds.length ∧ nX X.K B F1 (J i) σ H, ⟨ds.length, by omega, Γ, Ω, F1, S.pur p, Same.refl _, h0⟩, ?_⟩⟩
  rintro i m σ H ⟨hm, Γ, Ω, F2, S, f1, j⟩
  obtain ⟨w1, w2⟩ := w i F2 H f1 S.fh
  cases z : ds[i]? with
  | none =>
    have hl : ds.length ≤ i := List.getElem?_eq_none_iff.mp z
    have e : i = ds.length := by omega
    subst e
    exact .inl ⟨w2 hl, to_mono (p.ff.trans f1) (hd Γ Ω j F2 σ H S)⟩
  | some d =>
    have hl : i < ds.length := (List.getElem?_eq_some_iff.mp z).1
    obtain ⟨go, y⟩ := w1 d z
    obtain ⟨Γ1, ⟨g, pg, gq⟩, wb⟩ := step i d Γ Ω z j
    refine .inr ⟨go, nX X.K B F1 (J (i + 1)), ?_, fun x H' hy pins s u I2 r => ?_⟩
    · rintro σ' H' n
      exact ⟨m - 1, by omega, by omega, n⟩
    · obtain ⟨F3, p2, ix⟩ := y x H' hy
      refine pg pins s σ H' x u _ I2 r (gq F3 σ H' x _ p2.fh ix (S.sl.mono p2.ff) I2.len fun σ' sl' _ => ?_)
      have f3 : Same F1 F3 := f1.trans p2.ff
      exact ends_mono (D := E3.to X.K B F3 { E with nx := J (i + 1), ct := J (i + 1), bk := fun Γ' Ω' => W3 X B rest Γ' Ω' E }) (D' := { nx := nX X.K B F1 (J (i + 1)), rt := (E.to X.K B F).rt, bk := WS X rest (E.to X.K B F), ct := nX X.K B F1 (J (i + 1)) })
        (fun _ _ q => q.mono f3) (fun v H ⟨d, Ω, F, S, f, i, r⟩ => ⟨d, Ω, F, S, (p.ff.trans f3).trans f, i, r⟩) (fun _ _ q => nx_rest (q.mono (p.ff.trans f3))) (fun _ _ q => q.mono f3) (wb F3 σ' H' ((S.pur p2).slots sl'))
end
end L3
set_option Elab.async false
set_option linter.all false
set_option maxRecDepth 100000
set_option maxHeartbeats 4000000
namespace L3
open PySem PySem.Spec PySem.Calls PyProof.Rows L2
def capG (nt : Nat) (caps : List Nat) (Γ : Ga) : Ga := List.replicate nt none ++ caps.map fun i => Γ.getD i none
def Sub (Γ Γ1 : Ga) : Prop := ∀ (i : Nat) (e : D), Γ[i]? = some (some e) → Γ1[i]? = some (some e)
theorem Sub.set {Γ : Ga} {i : Nat} {d : Option D} (h : Γ[i]? = some none) : Sub Γ (Γ.set i d) := fun j e q => by
  have : i ≠ j := fun z => by subst z; rw [h] at q; cases q
  rw [List.getElem?_set_ne this]
  exact q
theorem Sl.sub {K : PySem.W.Frag} {F : Hp} {Γ Γ1 : Ga} {σ : L2.St} (h : Sl K F Γ1 σ) (s : Sub Γ Γ1) : Sl K F Γ σ := fun i d q => h i d (s i d q)
theorem Sl.cap {K : PySem.W.Frag} {F : Hp} {Γ : Ga} {σ : L2.St} {nt : Nat} {caps : List Nat} (h : Sl K F Γ σ) : Sl K F (capG nt caps Γ) (capSt nt caps σ) := fun j d q => by
  unfold capG at q
  unfold capSt
  by_cases hj : j < nt
  · rw [List.getElem?_append_left (by simpa using hj), List.getElem?_replicate] at q
    split at q <;> cases q
  · rw [List.getElem?_append_right (by simpa using hj), List.length_replicate, List.getElem?_map] at q
    rw [List.getElem?_append_right (by simpa using hj), List.length_replicate, List.getElem?_map]
    cases ec : caps[j - nt]? with
    | none => rw [ec] at q; cases q
    | some ci =>
      rw [ec] at q
      have q' : Γ.getD ci none = some d := by simpa using q
      rw [List.getD_eq_getElem?_getD] at q'
      have e : Γ[ci]? = some (some d) := by
        cases z : Γ[ci]? with
        | none => rw [z] at q'; cases q'
        | some w => rw [z] at q'; exact congrArg some q'
      obtain ⟨v, h1, h2⟩ := h ci d e
      refine ⟨v, ?_, h2⟩
      simp [List.getD_eq_getElem?_getD, h1]
def PTs3 (X : Cx) (Γ : Ga) (ifs : List Expr) (k : Bool) : Prop := PTs X ifs (tPT X.K Γ k)
theorem ts_nil {X : Cx} {Γ : Ga} : PTs3 X Γ [] true := fun pins s σ H Q I ⟨F, fh, sl, q⟩ => pts_nil (c := ⟨0, s, H, []⟩) pins s σ H Q I (q H F (Pur.refl fh))
theorem ts_one {X : Cx} {Γ : Ga} {c : Expr} {k : Bool} (h : PT3 X Γ c k) : PTs3 X Γ [c] k := pts_one h
def gW (X : Cx) (tg : Expr) : TG := fun v σ H Q => ∀ (pins : List (Addr × Obj)) (s : Shared) (u : Value), Inv X pins σ H s → RelV v u → wpAny (model X.prog X.w) X.A (assign tg X.env u) (fun _ s' => ∃ σ' H', Inv X pins σ' H' s' ∧ Q σ' H') X.xe s
def WTs (X : Cx) (ifs : List Expr) : TT := fun σ H Q => ∀ (pins : List (Addr × Obj)) (s : Shared), Inv X pins σ H s →
  wpAny (model X.prog X.w) X.A (forIn ifs true fun c r => if r = true then do let ok ← isTrue c X.env (eval c X.env); pure (ForInStep.yield ok) else pure (ForInStep.yield r)) (TP X pins σ Q) X.xe s
theorem pg_w {X : Cx} {tg : Expr} : PG X tg (gW X tg) := fun pins s σ H v u Q I r h => h pins s u I r
theorem pts_w {X : Cx} {ifs : List Expr} : PTs X ifs (WTs X ifs) := fun pins s σ H Q I h => h pins s I
def CStep (X : Cx) (sc : Scope) (N : List Str) (tg elt : Expr) (ifs : List Expr) (G : Ga) (ds : List D) (pre : Nat → List D) : Prop := ∀ (c : CArg) (i : Nat) (d : D), ds[i]? = some d → ∃ Γ1, G3 (X.comp sc N c) tg G d Γ1 ∧ Sub G Γ1 ∧
  ((∃ e, PTs3 (X.comp sc N c) Γ1 ifs true ∧ P3 (X.comp sc N c) Γ1 elt e ∧ pre (i + 1) = pre i ++ [e]) ∨ (PTs3 (X.comp sc N c) Γ1 ifs false ∧ pre (i + 1) = pre i))
section
variable {X : Cx} {Γ : Ga} {tg iter elt : Expr} {ifs : List Expr} {sc SX : Scope} {N XN : List Str} {nt : Nat} {caps : List Nat} {pos : Pos} {ds : List D} {pre : Nat → List D}
theorem comp_read (hz : ∀ i, i ≤ ds.length → (pre i).length < sizeLine) (h0 : pre 0 = []) (step : CStep X sc N tg elt ifs (capG nt caps Γ) ds pre) {σ : L2.St} {H : Hp} {Q : VK}
    (h : ∃ F, Same F H ∧ Sl X.K F Γ σ ∧ ∀ p xs H' F', Pur F H F' H' → H p = none → F' p = none → H' p = some (.lst xs) → IsL X.K F' (pre ds.length) xs → Q (.ref p) H') :
    tComp nt caps (fun σ H R => ∃ F, Same F H ∧ Sl X.K F Γ σ ∧ ∀ J H' F', Pur F H F' H' → Walk3 X.K F' J ds → R J H') (fun c => gW (X.comp sc N c) tg) (fun c => WTs (X.comp sc N c) ifs) (fun c => WE (X.comp sc N c) elt) σ H Q := by
  obtain ⟨F, fh, sl, q⟩ := h
  refine ⟨F, fh, sl, fun J H1 F1 p1 wk D hD c => ⟨fun i m σ' ys H' => i + m = ds.length ∧ ∃ F', Pur F1 H1 F' H' ∧ F' D = none ∧ H' D = some (.lst ys) ∧ IsL X.K F' (pre i) ys ∧ Sl X.K F' (capG nt caps Γ) σ', ?_, ?_⟩⟩
  · exact ⟨ds.length, by omega, F1, Pur.layOwn p1.fh hD, p1.fh.free hD, upd_same, by rw [h0]; exact IsL.nil, Sl.cap (sl.mono p1.ff)⟩
  · rintro i m σ' ys H' ⟨hm, F', pu, fD, hH, il, sl'⟩
    refine ⟨hH, by rw [il.len]; exact hz i (by omega), ?_⟩
    obtain ⟨w1, w2⟩ := wk i F' H' pu.ff pu.fh
    cases z : ds[i]? with
    | none =>
      have hl : ds.length ≤ i := List.getElem?_eq_none_iff.mp z
      have e : i = ds.length := by omega
      subst e
      exact .inl ⟨w2 hl, q D ys H' F' (p1.trans pu) (p1.hh.free hD) fD hH il⟩
    | some d =>
      have hl : i < ds.length := (List.getElem?_eq_some_iff.mp z).1
      obtain ⟨go, y⟩ := w1 d z
      obtain ⟨Γ1, ⟨g, pg, gq⟩, sub, alt⟩ := step c i d z
      refine .inr ⟨go, fun x H2 hy pins s u I2 r => ?_⟩
      obtain ⟨F2, p2, ix⟩ := y x H2 hy
      have keepD : ∀ {F3 H3 F4 H4 : Hp}, Pur F3 H3 F4 H4 → F3 D = none → (∃ o, H3 D = some o) → F4 D = none := fun {F3 H3 F4 H4} pp f3 h3 => by
        cases zz : F4 D with
        | none => rfl
        | some o =>
          rcases pp.new D (by rw [zz]; simp) with w | w
          · exact absurd f3 w
          · obtain ⟨o', h3⟩ := h3; rw [h3] at w; cases w
      have fD2 := keepD p2 fD ⟨_, hH⟩
      have hH2 := p2.hh _ _ hH
      refine pg pins s σ' H2 x u _ I2 r (gq F2 σ' H2 x _ p2.fh ix (sl'.mono p2.ff) I2.len fun σ3 sl3 _ => ?_)
      rcases alt with ⟨e, ht, he, hpre⟩ | ⟨ht, hpre⟩
      · refine fun pins s I3 => ht pins s σ3 H2 _ I3 ⟨F2, p2.fh, sl3, fun H4 F4 p4 => iteT ?_⟩
        refine fun pins s I4 => he pins s σ3 H4 _ I4 ⟨F4, p4.fh, sl3.mono p4.ff, fun v H5 F5 p5 iv => ?_⟩
        have fD5 := keepD p5 (keepD p4 fD2 ⟨_, hH2⟩) ⟨_, p4.hh _ _ hH2⟩
        have hH5 := p5.hh _ _ (p4.hh _ _ hH2)
        have P5 := ((pu.trans p2).trans p4).trans p5
        refine ⟨ys, hH5, by rw [il.len]; exact hz i (by omega), m - 1, by omega, by omega, F5, ⟨P5.ff, fun b o w => ?_, fun b o w => ?_, P5.new⟩, fD5, upd_same, ?_, (sl3.mono (p4.ff.trans p5.ff)).sub sub⟩
        · rw [upd_ne (ne_of_none w fD5)]; exact P5.fh _ _ w
        · rw [upd_ne (ne_of_none w hD)]; exact P5.hh _ _ w
        · rw [hpre]
          exact (il.mono ((p2.ff.trans p4.ff).trans p5.ff)).append (IsL.cons iv IsL.nil)
      · refine fun pins s I3 => ht pins s σ3 H2 _ I3 ⟨F2, p2.fh, sl3, fun H4 F4 p4 => iteF ?_⟩
        have P4 := (pu.trans p2).trans p4
        refine ⟨ys, m - 1, by omega, by omega, F4, P4, keepD p4 fD2 ⟨_, hH2⟩, p4.hh _ _ hH2, ?_, (sl3.mono p4.ff).sub sub⟩
        rw [hpre]
        exact il.mono (p2.ff.trans p4.ff)
theorem pf_comp (S : CompOk SX sc XN N nt caps) (hi : I3 X Γ tg iter ds) (hz : ∀ i, i ≤ ds.length → (pre i).length < sizeLine) (h0 : pre 0 = []) (step : CStep X sc N tg elt ifs (capG nt caps Γ) ds pre) (hc : X.calm = true := by rfl) (hX : X.env.scope = SX := by rfl) (hN : X.N = XN := by rfl)
    (hs : ∀ x, foldedSetIterable iter X.env x = pure x := by intro _; rfl) : PF3 X Γ (.ListComp elt [⟨tg, iter, ifs, 0⟩] sc pos) (pre ds.length) :=
  PE.of (pe_comp S hi (fun c => pg_w) (fun c => pts_w) (fun c => pe_w) hc hX hN hs) fun σ H Q h => comp_read hz h0 step h
theorem w_setC {B : Bs} {Ω : Om} {E : E3} {rest : List Stmt} {y : Str} {py : Pos} {i : Nat} {spos : Pos} (S : CompOk SX sc XN N nt caps) (hnd : X.N.Nodup) (hix : X.N[i]? = some y) (hy : Loc X.env.scope y) (hi : I3 X Γ tg iter ds) (hz : ∀ i, i ≤ ds.length → (pre i).length < sizeLine) (h0 : pre 0 = [])
    (step : CStep X sc N tg elt ifs (capG nt caps Γ) ds pre) (h : W3 X B rest (Γ.set i (some (.lst (pre ds.length)))) Ω E)
    (hsw : swapsWith (.ListComp elt [⟨tg, iter, ifs, 0⟩] sc pos) (some (.Name y py)) spos.line X.env = pure true := by rfl) (hc : X.calm = true := by rfl) (hX : X.env.scope = SX := by rfl) (hN : X.N = XN := by rfl)
    (hs : ∀ x, foldedSetIterable iter X.env x = pure x := by intro _; rfl) (hf : X.fn y = true ∨ X.env.scope.names.lookup y = some .local := by first | exact .inl rfl | exact .inr rfl) : W3 X B (.Assign [.Name y py] (.ListComp elt [⟨tg, iter, ifs, 0⟩] sc pos) spos :: rest) Γ Ω E := fun F σ H S' pins s I => by
  refine pss_cons (ps_comp S hnd hix hy hi (fun c => pg_w) (fun c => pts_w) (fun c => pe_w) hsw hc hX hN hs hf) pss_w pins s σ H _ I (comp_read (Q := fun x H1 => gName i x σ H1 (WS X rest (E.to X.K B F))) hz h0 step ⟨F, S'.fh, S'.sl, fun p xs H' F' pu hp fp e il => ?_⟩)
  have w : Same F' (upd F' p (.lst xs)) := fun b u q => by rw [upd_ne (ne_of_none q fp)]; exact q
  have wf : Same (upd F' p (.lst xs)) H' := fun b u q => by
    by_cases hb : b = p
    · subst hb; rw [upd_same] at q; cases q; exact e
    · rw [upd_ne hb] at q; exact pu.fh _ _ q
  have w2 : Pur F H (upd F' p (.lst xs)) H' := by
    refine ⟨pu.ff.trans w, wf, pu.hh, fun b q => ?_⟩
    by_cases hb : b = p
    · subst hb; exact .inr hp
    · rw [upd_ne hb] at q; exact pu.new b q
  exact to_mono w2.ff (h _ _ H' ((S'.pur w2).slots (Sl.set (S'.sl.mono w2.ff) (by rw [I.len]; exact (List.getElem?_eq_some_iff.mp hix).1) (Is.lstI (.inl upd_same) (il.mono w)))))
end
def cutD (ds : List D) (lo hi : Option Int) : List D := (ds.drop (HT.sIx ds.length 0 lo)).take (HT.sIx ds.length ds.length hi - HT.sIx ds.length 0 lo)
theorem cut_is {K : PySem.W.Frag} {F : Hp} {ds : List D} {xs : List V} {lo hi : Option Int} (h : IsL K F ds xs) : IsL K F (cutD ds lo hi) (cutV xs lo hi) := by
  unfold cutD cutV
  rw [h.len]
  exact (h.drop _).take _
def PO3 (X : Cx) (Γ : Ga) (e : Option Expr) (i : Option Int) : Prop := PO X e fun σ H Q => ∃ F, Same F H ∧ Sl X.K F Γ σ ∧ ∀ H' F', Pur F H F' H' → Q i H'
section
variable {X : Cx} {Γ : Ga} {a e : Expr} {lo hi : Option Expr} {i j : Option Int} {d : D} {ds : List D} {pos p2 : Pos}
theorem PO.of {e : Option Expr} {t u : TO} (h : PO X e t) (i : ∀ σ H Q, u σ H Q → t σ H Q) : PO X e u := fun pins s σ H Q I hq => h pins s σ H Q I (i _ _ _ hq)
theorem o_none : PO3 X Γ none none := PO.of po_none fun σ H Q ⟨F, fh, sl, q⟩ => q H F (Pur.refl fh)
theorem o_some {n : Int} (h : P3 X Γ e (.int n)) : PO3 X Γ (some e) (some n) := PO.of (po_some h) fun σ H Q ⟨F, fh, sl, q⟩ => ⟨F, fh, sl, fun v H' F' p i => ⟨n, isI i, q H' F' p⟩⟩
theorem tSl3 {K : PySem.W.Frag} {σ : L2.St} {H : Hp} {R : V → Option Int → Option Int → Hp → VK → Prop} {Q : VK} (h : ∃ F, Same F H ∧ Sl K F Γ σ ∧ ∀ x H2 F2, Pur F H F2 H2 → Is K F2 d x → R x i j H2 Q) :
    tSl R (tP K Γ d) (fun σ H Q => ∃ F, Same F H ∧ Sl K F Γ σ ∧ ∀ H' F', Pur F H F' H' → Q i H') (fun σ H Q => ∃ F, Same F H ∧ Sl K F Γ σ ∧ ∀ H' F', Pur F H F' H' → Q j H') σ H Q := by
  obtain ⟨F, fh, sl, q⟩ := h
  exact ⟨F, fh, sl, fun x H1 F1 p1 i1 => ⟨F1, p1.fh, sl.mono p1.ff, fun H2 F2 p2 => ⟨F2, p2.fh, sl.mono (p1.ff.trans p2.ff), fun H3 F3 p3 => q x H3 F3 ((p1.trans p2).trans p3) (i1.mono (p2.ff.trans p3.ff))⟩⟩⟩
theorem p_sliceT (ha : P3 X Γ a (.tup ds)) (hl : PO3 X Γ lo i) (hh : PO3 X Γ hi j) (hw : ¬ (HT.sIx ds.length 0 i = 0 ∧ HT.sIx ds.length ds.length j = ds.length)) : P3 X Γ (.Subscript a (.Slice lo hi none p2) pos) (.tup (cutD ds i j)) :=
  PE.of (pe_slice sl_tup ha hl hh) fun σ H Q ⟨F, fh, sl, q⟩ => tSl3 ⟨F, fh, sl, fun x H2 F2 p i1 => by
    obtain ⟨l, xs, rfl, s1, j1⟩ := isT i1
    exact ⟨l, xs, rfl, same_tup p.fh s1, by rw [j1.len]; exact hw, fun b hb => q _ _ _ (p.trans (Pur.lay p.fh hb)) (Is.tupI (.inl (.inl upd_same)) ((cut_is j1).mono (Pur.lay p.fh hb).ff))⟩⟩
end
end L3
set_option Elab.async false
set_option linter.all false
set_option maxRecDepth 100000
set_option maxHeartbeats 4000000
namespace L3
open PySem PySem.Spec PySem.Calls PyProof.Rows L2
def startG (N : List Str) (ds : List D) : Ga := ds.map some ++ List.replicate (N.length - ds.length) none
theorem Sl.start {K : PySem.W.Frag} {F : Hp} {N : List Str} {ds : List D} {vs : List V} (h : IsL K F ds vs) : Sl K F (startG N ds) (L2.start N vs) := fun i d q => by
  unfold startG at q
  unfold L2.start
  have hl := h.len
  by_cases hi : i < ds.length
  · rw [List.getElem?_append_left (by simpa using hi), List.getElem?_map] at q
    rw [List.getElem?_append_left (by rw [List.length_map, hl]; exact hi), List.getElem?_map]
    cases e : ds[i]? with
    | none => rw [e] at q; cases q
    | some d' =>
      rw [e] at q
      cases q
      obtain ⟨v, h1, h2⟩ := h.get e
      exact ⟨v, by rw [h1]; rfl, h2⟩
  · rw [List.getElem?_append_right (by simpa using hi), List.getElem?_replicate] at q
    split at q <;> cases q
theorem Sat.entry {K : PySem.W.Frag} {F H : Hp} {N : List Str} {ds : List D} {vs : List V} (fh : Same F H) (h : IsL K F ds vs) : Sat K ⟨[], F, H⟩ (startG N ds) [] F (L2.start N vs) H :=
  ⟨Same.refl _, fh, fun _ q => .inl q, fun _ _ _ e => e, List.nodup_nil, (fun _ q => absurd q (by simp)), (fun _ q => absurd q (by simp)), Sl.start h⟩
abbrev cx0 (P : Program) (w : World) (K : PySem.W.Frag) (mg : Str → Option Value) (base : Heap) (N : List Str) (x : Str) (st : Stmt) (f : Addr) (cdv : Value) (A : Around) (outer : List Env) (s : Shared) (H : Hp) (E : XK) : Cx := (cxOf CX0 P w K mg base N x (defScope st) f cdv A outer s H E).nox
section
variable {P : Program} {w : World} {K : PySem.W.Frag} {mg : Str → Option Value} {base : Heap} {x : Str} {st : Stmt} {N ps : List Str} {k n : Nat}
theorem ok_pure {C : List D → D → Prop} (d : DefK K mg x st ps) (S : FnScope N ps (defScope st)) (hn : ps.length = n)
    (body : ∀ (f : Addr) (cdv : Value) (A : Around) (outer : List Env) (s : Shared) (H : Hp) (E : XK), Room k (A.deeper (envOfC x (defScope st) s.heap.objs.size f cdv)) → ∀ (ds : List D) (r : D), C ds r → ∀ B : Bs, B.M = [] →
      W3 (cx0 P w K mg base N x st f cdv A outer s H E) B (defBody st) (startG N ds) [] ⟨fun _ _ => r = .non, fun r' _ => r' = r, fun _ _ => False, fun _ _ => False⟩) : OkF P w K mg base CX0 (k + 1) x ps (spP K n C) := by
  refine d.ok S (fun vs H Q E h => h.len.trans hn.symm) fun f cdv A outer s H vs Q E hr h => ⟨_, pss_w, ?_⟩
  obtain ⟨ds, r, F, hC, hl, fh, il, q⟩ := h
  refine ends_mono (D := E3.to K ⟨[], F, H⟩ F ⟨fun _ _ => r = .non, fun r' _ => r' = r, fun _ _ => False, fun _ _ => False⟩) (D' := { nx := fun _ H' => Q .non H', rt := Q }) ?_ ?_ ?_ ?_ (body f cdv A outer s H E hr ds r hC ⟨[], F, H⟩ rfl F (L2.start N vs) H (Sat.entry fh il))
  · rintro σ' H' ⟨Γ', Ω', F', S', f', e⟩
    subst e
    exact q _ _ _ (S'.toPur rfl) (i_non F')
  · rintro v H' ⟨d', Ω', F', ⟨σ', S'⟩, f', i', e⟩
    subst e
    exact q _ _ _ (S'.toPur rfl) i'
  · rintro σ' H' ⟨_, _, _, _, _, z⟩
    exact z.elim
  · rintro σ' H' ⟨_, _, _, _, _, z⟩
    exact z.elim
end
section
variable {X : Cx} {B : Bs} {Γ : Ga} {Ω : Om} {E : E3} {rest : List Stmt} {e : Expr} {es : List Expr} {ds : List D} {pos np cpos p : Pos} {Ex : XK} {C : Addr} {x : Str}
end
section
variable {X : Cx} {B : Bs} {Γ : Ga} {Ω : Om} {E : E3} {rest : List Stmt} {e : Expr} {ds : List D} {pos pos' : Pos} {x : Str}
theorem w_own {i : Nat} (hN : X.N.Nodup) (hi : X.N[i]? = some x) (hx : Loc X.env.scope x) (he : PF3 X Γ e ds) (h : ∀ a, W3 X B rest (Γ.set i (some (.raw (.ref a)))) ((a, oLst X.K ds) :: Ω) E) (hs : swapsWith e (some (.Name x pos')) pos.line X.env = pure false := by rfl)
    (hf : X.fn x = true ∨ X.env.scope.names.lookup x = some .local := by first | exact .inl rfl | exact .inr rfl | assumption) : W3 X B (.Assign [.Name x pos'] e pos :: rest) Γ Ω E := fun F σ H S pins s I =>
  pss_cons (ps_set hN hi hx he hs hf) pss_w pins s σ H _ I ⟨F, S.fh, S.sl, fun a xs H' F' pu ha fa hH il => by
    have S1 := S.pur pu
    have nin : a ∉ Ω.map (·.1) := fun z => by
      obtain ⟨q, hq, e⟩ := List.mem_map.mp z
      obtain ⟨_, o, h2, _⟩ := S.own q hq
      rw [e, ha] at h2
      cases h2
    refine to_mono pu.ff (h a F' _ H' ⟨S1.f0, S1.fh, S1.fr, S1.kp, List.nodup_cons.mpr ⟨nin, S1.nd⟩, fun q hq => ?_, fun q hq => ?_, Sl.set (S.sl.mono pu.ff) (by rw [I.len]; exact (List.getElem?_eq_some_iff.mp hi).1) (i_raw F')⟩)
    · rcases List.mem_cons.mp hq with z | z
      · subst z
        exact (S.freeB ha).symm
      · exact S1.od q z
    · rcases List.mem_cons.mp hq with z | z
      · subst z
        exact ⟨fa, _, hH, fun F2 e => ⟨xs, rfl, il.mono e⟩⟩
      · exact S1.own q z⟩
theorem Sat.perm {K : PySem.W.Frag} {Ω' : Om} {F : Hp} {σ : L2.St} {H : Hp} (S : Sat K B Γ Ω F σ H) (p : Ω'.Perm Ω) : Sat K B Γ Ω' F σ H :=
  ⟨S.f0, S.fh, S.fr, S.kp, (p.map _).nodup_iff.mpr S.nd, fun q hq => S.od q (p.mem_iff.mp hq), fun q hq => S.own q (p.mem_iff.mp hq), S.sl⟩
theorem w_perm {Ω' : Om} {sts : List Stmt} (p : Ω'.Perm Ω) (h : W3 X B sts Γ Ω' E) : W3 X B sts Γ Ω E := fun F σ H S => h F σ H (S.perm p)
theorem Sat.turn {K : PySem.W.Frag} {F : Hp} {σ : L2.St} {H : Hp} {a : Addr} {w w' : Ow} {o : HO} (S : Sat K B Γ ((a, w) :: Ω) F σ H) (h : ∀ F', Same F F' → w' F' o) : Sat K B Γ ((a, w') :: Ω) F σ (upd H a o) := by
  obtain ⟨fa, o0, ha, _⟩ := S.own (a, w) (by simp)
  have nin := (List.nodup_cons.mp S.nd).1
  refine ⟨S.f0, fun b u e => ?_, S.fr, fun b u hb e => ?_, S.nd, fun q hq => ?_, fun q hq => ?_, S.sl⟩
  · rw [upd_ne (ne_of_none e fa)]; exact S.fh _ _ e
  · by_cases z : b = a
    · subst z
      rcases S.od (b, w) (by simp) with y | y
      · exact absurd y hb
      · have y' : B.H b = none := y
        rw [y'] at e; cases e
    · rw [upd_ne z]; exact S.kp b u hb e
  · rcases List.mem_cons.mp hq with z | z
    · subst z; exact S.od (a, w) (by simp)
    · exact S.od q (List.mem_cons_of_mem _ z)
  · rcases List.mem_cons.mp hq with z | z
    · subst z
      exact ⟨fa, o, upd_same, h⟩
    · obtain ⟨h1, o', h2, h3⟩ := S.own q (List.mem_cons_of_mem _ z)
      have ne : q.1 ≠ a := fun e => nin (List.mem_map.mpr ⟨q, z, e⟩)
      exact ⟨h1, o', by rw [upd_ne ne]; exact h2, h3⟩
theorem w_append {i : Nat} {a : Addr} {d : D} {apos np ppos : Pos} (hi : X.N[i]? = some x) (hv : Vis X.env.scope x) (hΓ : Γ[i]? = some (some (.raw (.ref a)))) (he : P3 X Γ e d) (hz : ds.length < sizeLine) (h : W3 X B rest Γ ((a, oLst X.K (ds ++ [d])) :: Ω) E)
    (hs : ∀ {t : TE}, PE X (.Call (.Attribute (.Name x np) "append" apos) [e] [] ppos) t → PS X (.Expr (.Call (.Attribute (.Name x np) "append" apos) [e] [] ppos) pos) (tDrop t) := by exact fun h => ps_expr h)
    (hd : (x == ("__debug__" : Str)) = false := by decide) (hcd : (x == ("__classdict__" : Str)) = false := by decide) (hst : starEach [e] X.env = (false, eval e X.env) :: starEach [] X.env := by rfl)
    (hp : ∀ {to : TE} {ta : TA}, PE X (.Name x np) to → PA X [e] ta → PE X (.Call (.Attribute (.Name x np) "append" apos) [e] [] ppos) (tBM X.K "list" rAppend to ta) := by exact fun a b => pe_bm PySem.F.plainAttrs_list PySem.F.slot_list_append PySem.F.type_list_append mt_append a b) :
    W3 X B (.Expr (.Call (.Attribute (.Name x np) "append" apos) [e] [] ppos) pos :: rest) Γ ((a, oLst X.K ds) :: Ω) E := fun F σ H S pins s I => by
  obtain ⟨v, e1, e2⟩ := S.sl i _ hΓ
  cases isR e2
  obtain ⟨fa, o0, ha, ho⟩ := S.own (a, oLst X.K ds) (by simp)
  obtain ⟨xs, rfl, il⟩ := ho F (Same.refl _)
  refine pss_cons (hs (hp (pe_var hi hv hd hcd) (pl_cons he pl_nil hst))) pss_w pins s σ H _ I ⟨_, e1, .inl ⟨rfl, _, SqL.of ha⟩, F, S.fh, S.sl, fun vs H' F' pu iv => ?_⟩
  obtain ⟨y, rfl, iy⟩ := isL1 iv
  have S1 := S.pur pu
  refine ⟨a, xs, y, rfl, rfl, pu.hh _ _ ha, by rw [il.len]; exact hz, to_mono pu.ff (h F' σ _ (S1.turn fun F2 e2 => ⟨_, rfl, (il.mono (pu.ff.trans e2)).append (IsL.cons (iy.mono e2) IsL.nil)⟩))⟩
theorem w_freeze {sts : List Stmt} {i : Nat} {a : Addr} (hΓ : Γ[i]? = some (some (.raw (.ref a)))) (h : W3 X B sts (Γ.set i (some (.lst ds))) Ω E) : W3 X B sts Γ ((a, oLst X.K ds) :: Ω) E := fun F σ H S => by
  obtain ⟨v, e1, e2⟩ := S.sl i _ hΓ
  cases isR e2
  obtain ⟨fa, o0, ha, ho⟩ := S.own (a, oLst X.K ds) (by simp)
  obtain ⟨xs, rfl, il⟩ := ho F (Same.refl _)
  have nin := (List.nodup_cons.mp S.nd).1
  have w : Same F (upd F a (.lst xs)) := fun b u q => by rw [upd_ne (ne_of_none q fa)]; exact q
  refine to_mono w (h (upd F a (.lst xs)) σ H ⟨S.f0.trans w, fun b u q => ?_, fun b q => ?_, S.kp, (List.nodup_cons.mp S.nd).2, fun q hq => S.od q (List.mem_cons_of_mem _ hq), fun q hq => ?_, fun j d q => ?_⟩)
  · by_cases hb : b = a
    · subst hb; rw [upd_same] at q; cases q; exact ha
    · rw [upd_ne hb] at q; exact S.fh _ _ q
  · by_cases hb : b = a
    · subst hb
      exact (S.od (b, oLst X.K ds) (by simp)).elim (fun z => .inr (.inr z)) fun z => .inr (.inl z)
    · rw [upd_ne hb] at q; exact S.fr b q
  · obtain ⟨h1, o', h2, h3⟩ := S.own q (List.mem_cons_of_mem _ hq)
    have ne : q.1 ≠ a := fun e => nin (List.mem_map.mpr ⟨q, hq, e⟩)
    exact ⟨by rw [upd_ne ne]; exact h1, o', h2, fun F2 e => h3 F2 (w.trans e)⟩
  · by_cases hj : i = j
    · subst hj
      rw [List.getElem?_set] at q
      split at q
      · split at q
        · cases q
          exact ⟨_, e1, Is.lstI (.inl upd_same) (il.mono w)⟩
        · cases q
      · contradiction
    · rw [List.getElem?_set_ne hj] at q
      obtain ⟨u, h1, h2⟩ := S.sl j d q
      exact ⟨u, h1, h2.mono w⟩
end
end L3
set_option Elab.async false
set_option linter.all false
set_option maxRecDepth 100000
set_option maxHeartbeats 4000000
namespace L3
open PySem PySem.Spec PySem.Calls PyProof.Rows L2
def V3 (X : Cx) (B : Bs) (e : Expr) (Γ : Ga) (Ω : Om) (R : D → Om → Prop) : Prop := ∀ F σ H, Sat X.K B Γ Ω F σ H → WE X e σ H fun v H' => ∃ d Ω' F', Sat X.K B Γ Ω' F' σ H' ∧ Same F F' ∧ Is X.K F' d v ∧ R d Ω'
def VT3 (X : Cx) (B : Bs) (e : Expr) (Γ : Ga) (Ω : Om) (R : Bool → Om → Prop) : Prop := ∀ F σ H, Sat X.K B Γ Ω F σ H → WT X e σ H fun k H' => ∃ Ω' F', Sat X.K B Γ Ω' F' σ H' ∧ Same F F' ∧ R k Ω'
def WL (X : Cx) (es : List Expr) : TA := fun σ H Q => ∀ (pos : Pos) (pins : List (Addr × Obj)) (s : Shared), Inv X pins σ H s → wpAny (model X.prog X.w) X.A (spliced (backTo pos (starEach es X.env))) (AP X pins σ Q) X.xe s
theorem pa_w {X : Cx} {es : List Expr} : PA X es (WL X es) := fun pos pins s σ H Q I h => h pos pins s I
def VL3 (X : Cx) (B : Bs) (es : List Expr) (Γ : Ga) (Ω : Om) (R : List D → Om → Prop) : Prop := ∀ F σ H, Sat X.K B Γ Ω F σ H → WL X es σ H fun vs H' => ∃ ds Ω' F', Sat X.K B Γ Ω' F' σ H' ∧ Same F F' ∧ IsL X.K F' ds vs ∧ R ds Ω'
theorem WE.mono {X : Cx} {e : Expr} {σ : L2.St} {H : Hp} {Q Q' : VK} (h : WE X e σ H Q) (i : ∀ v H, Q v H → Q' v H) : WE X e σ H Q' := fun pins s I => thn (h pins s I) fun u s' ⟨v, H', I', r, q⟩ => ⟨v, H', I', r, i _ _ q⟩
theorem WT.mono {X : Cx} {e : Expr} {σ : L2.St} {H : Hp} {Q Q' : Bool → Hp → Prop} (h : WT X e σ H Q) (i : ∀ v H, Q v H → Q' v H) : WT X e σ H Q' := fun pins s I => thn (h pins s I) fun u s' ⟨H', I', q⟩ => ⟨H', I', i _ _ q⟩
theorem WL.mono {X : Cx} {e : List Expr} {σ : L2.St} {H : Hp} {Q Q' : List V → Hp → Prop} (h : WL X e σ H Q) (i : ∀ v H, Q v H → Q' v H) : WL X e σ H Q' := fun p pins s I => thn (h p pins s I) fun u s' ⟨v, H', I', r, q⟩ => ⟨v, H', I', r, i _ _ q⟩
theorem Sat.turnIn {K : PySem.W.Frag} {B : Bs} {Γ : Ga} {Ω : Om} {F : Hp} {σ : L2.St} {H : Hp} {a : Addr} {w : Ow} {o : HO} (S : Sat K B Γ Ω F σ H) (m : (a, w) ∈ Ω) (h : ∀ F', Same F F' → w F' o) : Sat K B Γ Ω F σ (upd H a o) := by
  obtain ⟨fa, o0, ha, _⟩ := S.own (a, w) m
  refine ⟨S.f0, fun b u e => ?_, S.fr, fun b u hb e => ?_, S.nd, S.od, fun q hq => ?_, S.sl⟩
  · rw [upd_ne (ne_of_none e fa)]; exact S.fh _ _ e
  · by_cases z : b = a
    · subst z
      rcases S.od (b, w) m with y | y
      · exact absurd y hb
      · have y' : B.H b = none := y
        rw [y'] at e; cases e
    · rw [upd_ne z]; exact S.kp b u hb e
  · obtain ⟨h1, o', h2, h3⟩ := S.own q hq
    by_cases z : q.1 = a
    · have e : q = (a, w) := by
        have nd := S.nd
        clear h1 h2 h3 ha fa h
        induction Ω with
        | nil => cases hq
        | cons r Ω ih =>
          rw [List.map_cons, List.nodup_cons] at nd
          rcases List.mem_cons.mp hq with y | y
          · rcases List.mem_cons.mp m with y2 | y2
            · rw [y, y2]
            · exact absurd (List.mem_map.mpr ⟨(a, w), y2, by rw [← y, z]⟩) nd.1
          · rcases List.mem_cons.mp m with y2 | y2
            · exact absurd (List.mem_map.mpr ⟨q, y, by rw [z, ← y2]⟩) nd.1
            · exact ih ⟨S.f0, S.fh, S.fr, S.kp, nd.2, fun q hq => S.od q (List.mem_cons_of_mem _ hq), fun q hq => S.own q (List.mem_cons_of_mem _ hq), S.sl⟩ y2 y nd.2
      subst e
      exact ⟨fa, o, upd_same, h⟩
    · exact ⟨h1, o', by rw [upd_ne z]; exact h2, h3⟩
section
variable {X : Cx} {B : Bs} {Γ : Ga} {Ω : Om} {E : E3} {rest body : List Stmt} {a b c e : Expr} {es : List Expr} {d : D} {ds : List D} {pos pos' p : Pos} {R : D → Om → Prop} {RL : List D → Om → Prop} {RT : Bool → Om → Prop} {k : Bool}
theorem v_pure (h : P3 X Γ e d) (r : R d Ω) : V3 X B e Γ Ω R := fun F σ H S => h.we ⟨F, S.fh, S.sl, fun v H' F' p i => ⟨d, Ω, F', S.pur p, p.ff, i, r⟩⟩
theorem V3.imp {R' : D → Om → Prop} (h : V3 X B e Γ Ω R) (i : ∀ d Ω', R d Ω' → R' d Ω') : V3 X B e Γ Ω R' := fun F σ H S => (h F σ H S).mono fun v H' ⟨d, Ω', F', S', f, iv, r⟩ => ⟨d, Ω', F', S', f, iv, i _ _ r⟩
theorem vt_pure (h : PT3 X Γ e k) (r : RT k Ω) : VT3 X B e Γ Ω RT := fun F σ H S => h.wt ⟨F, S.fh, S.sl, fun H' F' p => ⟨Ω, F', S.pur p, p.ff, r⟩⟩
theorem v_op {op : Operator} {r : R2} (ho : OpR X (binaryOp op) r) (h : V3 X B a Γ Ω fun d Ω1 => V3 X B b Γ Ω1 fun d' Ω2 => ∃ d3, (∀ x y H F Q, Same F H → Is X.K F d x → Is X.K F d' y → (∀ v H' F', Pur F H F' H' → Is X.K F' d3 v → Q v H') → r x y H Q) ∧ R d3 Ω2) : V3 X B (.BinOp a op b pos) Γ Ω R := fun F σ H S pins s I =>
  pe_op ho pe_w pe_w pins s σ H _ I ((h F σ H S).mono fun x H1 ⟨d, Ω1, F1, S1, f1, i1, h1⟩ => (h1 F1 σ H1 S1).mono fun y H2 ⟨d', Ω2, F2, S2, f2, i2, d3, hr, q⟩ =>
    hr x y H2 F2 _ S2.fh (i1.mono f2) i2 fun v H' F' p i => ⟨d3, Ω2, F', S2.pur p, (f1.trans f2).trans p.ff, i, q⟩)
theorem v_add (h : V3 X B a Γ Ω fun d Ω1 => ∃ i, d = .int i ∧ V3 X B b Γ Ω1 fun d' Ω2 => ∃ j, d' = .int j ∧ R (.int (i + j)) Ω2) : V3 X B (.BinOp a .Add b pos) Γ Ω R :=
  v_op op_add (h.imp fun d Ω1 ⟨i, e, h⟩ => h.imp fun d' Ω2 ⟨j, e', r⟩ => ⟨_, fun x y H F Q fh i1 i2 k => by subst e e'; exact ⟨i, j, isI i1, isI i2, k _ _ _ (Pur.refl fh) (i_int F)⟩, r⟩)
theorem vl_pure (h : PL3 X Γ es ds) (r : RL ds Ω) : VL3 X B es Γ Ω RL := fun F σ H S pos pins s I => h pos pins s σ H _ I ⟨F, S.fh, S.sl, fun v H' F' p i => ⟨ds, Ω, F', S.pur p, p.ff, i, r⟩⟩
theorem vl_cons (h : V3 X B e Γ Ω fun d Ω1 => VL3 X B es Γ Ω1 fun ds Ω2 => RL (d :: ds) Ω2) (hs : starEach (e :: es) X.env = (false, eval e X.env) :: starEach es X.env := by rfl) : VL3 X B (e :: es) Γ Ω RL := fun F σ H S pos pins s I =>
  pa_cons pe_w pa_w hs pos pins s σ H _ I ((h F σ H S).mono fun x H1 ⟨d, Ω1, F1, S1, f1, i1, h1⟩ => (h1 F1 σ H1 S1).mono fun xs H2 ⟨ds, Ω2, F2, S2, f2, i2, r⟩ => ⟨d :: ds, Ω2, F2, S2, f1.trans f2, IsL.cons (i1.mono f2) i2, r⟩)
theorem v_tup {x1} (h : VL3 X B es Γ Ω fun ds Ω1 => ds.length ≤ sizeLine ∧ R (.tup ds) Ω1) : V3 X B (.Tuple es x1 pos) Γ Ω R := fun F σ H S pins s I =>
  pe_tup pa_w pins s σ H _ I ((h F σ H S).mono fun xs H1 ⟨ds, Ω1, F1, S1, f1, i1, hz, r⟩ => ⟨by rw [i1.len]; exact hz, fun q hq => ⟨.tup ds, Ω1, _, S1.pur (Pur.lay S1.fh hq), f1.trans (Pur.lay S1.fh hq).ff, Is.tupI (.inl (.inl upd_same)) (i1.mono (Pur.lay S1.fh hq).ff), r⟩⟩)
theorem v_ixL (h : V3 X B a Γ Ω fun d Ω1 => ∃ ds, d = .lst ds ∧ V3 X B b Γ Ω1 fun d' Ω2 => ∃ i e, d' = .int i ∧ atI ds i = some e ∧ R e Ω2) (hs : PlainIx b := by exact fun _ _ => rfl) : V3 X B (.Subscript a b pos) Γ Ω R := fun F σ H S pins s I =>
  pe_ix ix_list pe_w pe_w hs pins s σ H _ I ((h F σ H S).mono fun x H1 ⟨d, Ω1, F1, S1, f1, i1, ds, e1, h1⟩ => (h1 F1 σ H1 S1).mono fun y H2 ⟨d', Ω2, F2, S2, f2, i2, j, e, e2, e3, q⟩ => by
    subst e1 e2
    obtain ⟨l, xs, rfl, s1, j1⟩ := isLst (i1.mono f2)
    obtain ⟨v, v1, v2⟩ := atI_is j1 e3
    exact ⟨l, xs, j, v, rfl, isI i2, S2.fh.seq s1, v1, e, Ω2, F2, S2, f1.trans f2, v2, q⟩)
theorem v_cmp {op : CmpOp} {r : R2} (ho : OpR X (compareOp op) r) (h : V3 X B a Γ Ω fun d Ω1 => V3 X B b Γ Ω1 fun d' Ω2 => ∃ k, (∀ x y H F Q, Same F H → Is X.K F d x → Is X.K F d' y → Q (.bl k) H → r x y H Q) ∧ R (.bl k) Ω2)
    (hm : behindInMarks op b = false := by first | exact nomark _ | with_unfolding_all rfl) : V3 X B (.Compare a [op] [b] pos) Γ Ω R := fun F σ H S pins s I =>
  pe_cmpR ho pe_w pe_w hm pins s σ H _ I ((h F σ H S).mono fun x H1 ⟨d, Ω1, F1, S1, f1, i1, h1⟩ => (h1 F1 σ H1 S1).mono fun y H2 ⟨d', Ω2, F2, S2, f2, i2, k, hr, q⟩ => hr x y H2 F2 _ S2.fh (i1.mono f2) i2 ⟨.bl k, Ω2, F2, S2, f1.trans f2, i_bl F2, q⟩)
theorem cmpI_pure {g : Int → Int → Bool} {i j : Int} : ∀ (x y : V) (H F : Hp) (Q : VK), Same F H → Is X.K F (.int i) x → Is X.K F (.int j) y → Q (.bl (g i j)) H → rI0 (fun i j => .bl (g i j)) x y H Q := fun x y H F Q fh i1 i2 q => ⟨i, j, isI i1, isI i2, q⟩
theorem w_setV {i : Nat} {x : Str} (hN : X.N.Nodup) (hi : X.N[i]? = some x) (hx : Loc X.env.scope x) (h : V3 X B e Γ Ω fun d Ω1 => W3 X B rest (Γ.set i (some d)) Ω1 E) (hs : swapsWith e (some (.Name x pos')) pos.line X.env = pure false := by rfl)
    (hf : X.fn x = true ∨ X.env.scope.names.lookup x = some .local := by first | exact .inl rfl | exact .inr rfl | assumption) : W3 X B (.Assign [.Name x pos'] e pos :: rest) Γ Ω E := fun F σ H S pins s I =>
  pss_cons (ps_set hN hi hx pe_w hs hf) pss_w pins s σ H _ I ((h F σ H S).mono fun v H1 ⟨d, Ω1, F1, S1, f1, i1, h1⟩ => to_mono f1 (h1 F1 _ H1 (S1.slots (Sl.set S1.sl (by rw [I.len]; exact (List.getElem?_eq_some_iff.mp hi).1) i1))))
theorem w_retV (h : V3 X B e Γ Ω E.rt) : W3 X B (.Return (some e) pos :: rest) Γ Ω E := fun F σ H S pins s I =>
  pss_cons (ps_ret pe_w) pss_never pins s σ H _ I ((h F σ H S).mono fun v H1 ⟨d, Ω1, F1, S1, f1, i1, h1⟩ => ⟨d, Ω1, F1, ⟨σ, S1.slots Sl.nil⟩, f1, i1, h1⟩)
theorem w_ifV {a b : List Stmt} (h : VT3 X B c Γ Ω fun k Ω1 => (k = true → W3 X B a Γ Ω1 (E.then X B rest)) ∧ (k = false → W3 X B b Γ Ω1 (E.then X B rest))) : W3 X B (.If c a b pos :: rest) Γ Ω E := fun F σ H S pins s I =>
  pss_cons (ps_if pt_w pss_w pss_w) pss_w pins s σ H _ I ((h F σ H S).mono fun k H1 ⟨Ω1, F1, S1, f1, h1, h2⟩ => by
    cases k with
    | true => exact iteT (seq_rest (to_mono f1 (h1 rfl F1 σ H1 S1)))
    | false => exact iteF (seq_rest (to_mono f1 (h2 rfl F1 σ H1 S1))))
end
end L3
set_option Elab.async false
set_option linter.all false
set_option maxRecDepth 100000
set_option maxHeartbeats 4000000
namespace L3
open PySem PySem.Spec PySem.Calls PyProof.Rows L2
theorem Sat.new {K : PySem.W.Frag} {B : Bs} {Γ : Ga} {Ω : Om} {F F' : Hp} {σ : L2.St} {H H' : Hp} {a : Addr} {w : Ow} {o : HO} (S : Sat K B Γ Ω F σ H) (pu : Pur F H F' H') (ha : H a = none) (fa : F' a = none) (hH : H' a = some o) (h : ∀ F2, Same F' F2 → w F2 o) : Sat K B Γ ((a, w) :: Ω) F' σ H' := by
  have S1 := S.pur pu
  have nin : a ∉ Ω.map (·.1) := fun z => by
    obtain ⟨q, hq, e⟩ := List.mem_map.mp z
    obtain ⟨_, o, h2, _⟩ := S.own q hq
    rw [e, ha] at h2
    cases h2
  refine ⟨S1.f0, S1.fh, S1.fr, S1.kp, List.nodup_cons.mpr ⟨nin, S1.nd⟩, fun q hq => ?_, fun q hq => ?_, S1.sl⟩
  · rcases List.mem_cons.mp hq with z | z
    · subst z
      exact (S.freeB ha).symm
    · exact S1.od q z
  · rcases List.mem_cons.mp hq with z | z
    · subst z
      exact ⟨fa, _, hH, h⟩
    · exact S1.own q z
def WI (X : Cx) (tg iter : Expr) : TI := fun σ H R => ∀ (pins : List (Addr × Obj)) (s : Shared), Inv X pins σ H s → wpAny (model X.prog X.w) X.A (eval iter X.env) (fun v s1 => wpAny (model X.prog X.w) X.A (pyIter v) (PIE X pins σ tg R) X.xe s1) X.xe s
theorem pi_w {X : Cx} {tg iter : Expr} : PI X tg iter (WI X tg iter) := fun pins s σ H R I h => h pins s I
theorem WI.mono {X : Cx} {tg iter : Expr} {σ : L2.St} {H : Hp} {R R' : It → Hp → Prop} (h : WI X tg iter σ H R) (i : ∀ J H, R J H → R' J H) : WI X tg iter σ H R' := fun pins s I => thn (h pins s I) fun v s1 h1 => thn h1 fun itv s2 ⟨it, fp, tn, J, H', e, I', T, t0, f, r⟩ => ⟨it, fp, tn, J, H', e, I', T, t0, f, i _ _ r⟩
def IV3 (X : Cx) (B : Bs) (tg iter : Expr) (Γ : Ga) (Ω : Om) (R : List D → Om → Prop) : Prop := ∀ F σ H, Sat X.K B Γ Ω F σ H → WI X tg iter σ H fun J H' => ∃ ds Ω' F', Sat X.K B Γ Ω' F' σ H' ∧ Same F F' ∧ Walk3 X.K F' J ds ∧ R ds Ω'
section
variable {X : Cx} {B : Bs} {Γ : Ga} {Ω : Om} {E : E3} {rest body : List Stmt} {tg iter a b e : Expr} {es : List Expr} {d : D} {ds : List D} {pos pos' p : Pos} {R : D → Om → Prop} {RL : List D → Om → Prop}
theorem iv_pure (h : I3 X Γ tg iter ds) (r : RL ds Ω) : IV3 X B tg iter Γ Ω RL := fun F σ H S pins s I => h pins s σ H _ I ⟨F, S.fh, S.sl, fun J H' F' p w => ⟨ds, Ω, F', S.pur p, p.ff, w, r⟩⟩
theorem iv_range1 (hm : X.mg "range" = none) (hg : Gl X "range") (h : V3 X B a Γ Ω fun d Ω1 => ∃ j : Int, d = .int j ∧ -(2 ^ 62) ≤ j ∧ j < 2 ^ 62 ∧ RL (rngD 0 j.toNat) Ω1) (hs : starEach [a] X.env = [(false, eval a X.env)] := by rfl) : IV3 X B tg (.Call (.Name "range" p) [a] [] pos) Γ Ω RL := fun F σ H S pins s I =>
  pi_range1 hg hm (pa_cons pe_w pa_nil hs) hs pins s σ H _ I ((h F σ H S).mono fun v H1 ⟨d, Ω1, F1, S1, f1, i1, j, e, b1, b2, r⟩ => by
    subst e
    exact ⟨j, by rw [isI i1], b1, b2, _, Ω1, F1, S1, f1, walk_rng, r⟩)
theorem w_forV (hp : PassesOwn (model X.prog X.w) X.A X.env X.xe) (hc : X.calm = true)
    (h : IV3 X B tg iter Γ Ω fun ds Ω1 => ∃ J : Nat → Ga → Om → Prop, J 0 Γ Ω1 ∧ (∀ i d Γ Ω, ds[i]? = some d → J i Γ Ω → ∃ Γ1, G3 X tg Γ d Γ1 ∧ W3 X B body Γ1 Ω { E with nx := J (i + 1), ct := J (i + 1), bk := fun Γ' Ω' => W3 X B rest Γ' Ω' E }) ∧ ∀ Γ Ω, J ds.length Γ Ω → W3 X B rest Γ Ω E)
    (hs : ∀ x, foldedSetIterable iter X.env x = pure x := by intro _; rfl) : W3 X B (.For tg iter body [] pos :: rest) Γ Ω E := fun F σ H S pins s I => by
  refine pss_cons (ps_for hp hc pi_w pg_w pss_w hs) pss_w pins s σ H _ I ((h F σ H S).mono fun Jt H1 ⟨ds, Ω1, F1, S1, p1, w, J, h0, step, hd⟩ => ⟨fun i m σ H => i + m = ds.length ∧ nX X.K B F1 (J i) σ H, ⟨ds.length, by omega, Γ, Ω1, F1, S1, Same.refl _, h0⟩, ?_⟩)
  rintro i m σ H ⟨hm, Γ, Ω, F2, S, f1, j⟩
  obtain ⟨w1, w2⟩ := w i F2 H f1 S.fh
  cases z : ds[i]? with
  | none =>
    have hl : ds.length ≤ i := List.getElem?_eq_none_iff.mp z
    have e : i = ds.length := by omega
    subst e
    exact .inl ⟨w2 hl, to_mono (p1.trans f1) (hd Γ Ω j F2 σ H S)⟩
  | some d =>
    have hl : i < ds.length := (List.getElem?_eq_some_iff.mp z).1
    obtain ⟨go, y⟩ := w1 d z
    obtain ⟨Γ1, ⟨g, pg, gq⟩, wb⟩ := step i d Γ Ω z j
    refine .inr ⟨go, nX X.K B F1 (J (i + 1)), ?_, fun x H' hy pins s u I2 r => ?_⟩
    · rintro σ' H' n
      exact ⟨m - 1, by omega, by omega, n⟩
    · obtain ⟨F3, p2, ix⟩ := y x H' hy
      refine pg pins s σ H' x u _ I2 r (gq F3 σ H' x _ p2.fh ix (S.sl.mono p2.ff) I2.len fun σ' sl' _ => ?_)
      have f3 : Same F1 F3 := f1.trans p2.ff
      exact ends_mono (D := E3.to X.K B F3 { E with nx := J (i + 1), ct := J (i + 1), bk := fun Γ' Ω' => W3 X B rest Γ' Ω' E }) (D' := { nx := nX X.K B F1 (J (i + 1)), rt := (E.to X.K B F).rt, bk := WS X rest (E.to X.K B F), ct := nX X.K B F1 (J (i + 1)) })
        (fun _ _ q => q.mono f3) (fun v H ⟨d, Ω, F, S, f, i, r⟩ => ⟨d, Ω, F, S, (p1.trans f3).trans f, i, r⟩) (fun _ _ q => nx_rest (q.mono (p1.trans f3))) (fun _ _ q => q.mono f3) (wb F3 σ' H' ((S.pur p2).slots sl'))
theorem v_fresh (h : PF3 X Γ e ds) (r : ∀ a, R (.raw (.ref a)) ((a, oLst X.K ds) :: Ω)) : V3 X B e Γ Ω R := fun F σ H S pins s I => h pins s σ H _ I ⟨F, S.fh, S.sl, fun a xs H' F' pu ha fa hH il => ⟨_, _, F', S.new pu ha fa hH (fun F2 e => ⟨xs, rfl, il.mono e⟩), pu.ff, i_raw F', r a⟩⟩
end
end L3
set_option Elab.async false
set_option linter.all false
set_option maxRecDepth 100000
set_option maxHeartbeats 4000000
namespace L3
open PySem PySem.Spec PySem.Calls PyProof.Rows L2
def sh (q : Rat) : D := .tup [.int q.num, .int (q.den : Int)]
def Sz (n : Nat) (q : Rat) : Prop := q.num.natAbs < 2 ^ n ∧ q.den < 2 ^ n
theorem Sz.mono {m n : Nat} {q : Rat} (h : Sz m q) (l : m ≤ n) : Sz n q :=
  ⟨Nat.lt_of_lt_of_le h.1 (Nat.pow_le_pow_right (by decide) l), Nat.lt_of_lt_of_le h.2 (Nat.pow_le_pow_right (by decide) l)⟩
theorem bits_abs {x : Int} {n : Nat} (h : x.natAbs < 2 ^ n) : Builtin.Int.intBits x ≤ n := PySem.intBits_le_iff.mpr h
theorem mul_fit {a b : Int} {m n : Nat} (ha : a.natAbs < 2 ^ m) (hb : b.natAbs < 2 ^ n) (h : m + n ≤ 134217728) : IntMulOk a b := PySem.IntMulOk.of_le (bits_abs ha) (bits_abs hb) h
theorem pow_add' (m n : Nat) : 2 ^ (m + n) = 2 ^ m * 2 ^ n := Nat.pow_add 2 m n
theorem abs_mul_lt {a b : Int} {m n : Nat} (ha : a.natAbs < 2 ^ m) (hb : b.natAbs < 2 ^ n) : (a * b).natAbs < 2 ^ (m + n) := by
  rw [Int.natAbs_mul, pow_add']
  exact Nat.mul_lt_mul'' ha hb
theorem sz_divInt {t b : Int} {n : Nat} (hb : 0 < b) (h1 : t.natAbs < 2 ^ n) (h2 : b.natAbs < 2 ^ n) : Sz n (Rat.divInt t b) := by
  constructor
  · rw [Rat.num_divInt, Int.sign_eq_one_of_pos hb, Int.one_mul]
    refine Nat.lt_of_le_of_lt ?_ h1
    rw [Int.natAbs_ediv_of_dvd (Int.gcd_dvd_right _ _)]
    exact Nat.div_le_self _ _
  · rw [Rat.den_divInt, if_neg (by omega)]
    exact Nat.lt_of_le_of_lt (Nat.div_le_self _ _) h2
theorem sz_add {m n : Nat} {p q : Rat} (hp : Sz m p) (hq : Sz n q) : Sz (m + n + 1) (p + q) := by
  rw [← My.q_add]
  have a1 := abs_mul_lt hp.1 (show (q.den : Int).natAbs < 2 ^ n from hq.2)
  have a2 := abs_mul_lt hq.1 (show (p.den : Int).natAbs < 2 ^ m from hp.2)
  have a3 := abs_mul_lt (show (p.den : Int).natAbs < 2 ^ m from hp.2) (show (q.den : Int).natAbs < 2 ^ n from hq.2)
  rw [Nat.add_comm n m] at a2
  have e : 2 ^ (m + n + 1) = 2 ^ (m + n) + 2 ^ (m + n) := by rw [Nat.pow_succ]; omega
  refine sz_divInt (Int.mul_pos (My.den_pos' p) (My.den_pos' q)) ?_ ?_
  · rw [e]
    refine Nat.lt_of_le_of_lt (Int.natAbs_add_le _ _) ?_
    omega
  · rw [e]; omega
theorem sz_mul {m n : Nat} {p q : Rat} (hp : Sz m p) (hq : Sz n q) : Sz (m + n) (p * q) := by
  rw [← My.q_mul]
  exact sz_divInt (Int.mul_pos (My.den_pos' p) (My.den_pos' q)) (abs_mul_lt hp.1 hq.1) (abs_mul_lt (show (p.den : Int).natAbs < 2 ^ m from hp.2) (show (q.den : Int).natAbs < 2 ^ n from hq.2))
theorem sz_0 : Sz 1 0 := by constructor <;> decide
theorem sz_1 : Sz 1 1 := by constructor <;> decide
theorem sz_lt {n : Nat} {q : Rat} (h1 : q.num.natAbs < 2 ^ n) (h2 : q.den < 2 ^ n) : Sz n q := ⟨h1, h2⟩
theorem q_nn_add {p q : Rat} (a : 0 ≤ p) (b : 0 ≤ q) : 0 ≤ p + q := by grind
theorem q_nn_mul {p q : Rat} (a : 0 ≤ p) (b : 0 ≤ q) : 0 ≤ p * q := Rat.mul_nonneg a b
abbrev big : Nat := 67108864
def C_gcd : List D → D → Prop := fun ds d => ∃ a b : Int, ds = [.int a, .int b] ∧ d = .int (My.G a b) ∧ 0 ≤ a ∧ 0 ≤ b
def C_share : List D → D → Prop := fun ds d => ∃ t b : Int, ds = [.int t, .int b] ∧ d = sh (Rat.divInt t b) ∧ 0 ≤ t ∧ 0 < b
def C_op (f : Rat → Rat → Rat) (C : Rat → Rat → Prop) : List D → D → Prop := fun ds d => ∃ (p q : Rat) (m n : Nat), ds = [sh p, sh q] ∧ d = sh (f p q) ∧ 0 ≤ p ∧ 0 ≤ q ∧ Sz m p ∧ Sz n q ∧ m ≤ big ∧ n ≤ big ∧ C p q
abbrev C_added := C_op (fun p q => p + q) fun _ _ => True
abbrev C_timed := C_op (fun p q => p * q) fun _ _ => True
theorem den_abs {q : Rat} {n : Nat} (h : Sz n q) : ((q.den : Int)).natAbs < 2 ^ n := h.2
theorem fit_nn {p q : Rat} {m n : Nat} (hp : Sz m p) (hq : Sz n q) (h1 : m ≤ big) (h2 : n ≤ big) : IntMulOk p.num q.num := mul_fit hp.1 hq.1 (by have : big = 67108864 := rfl; omega)
theorem fit_dd {p q : Rat} {m n : Nat} (hp : Sz m p) (hq : Sz n q) (h1 : m ≤ big) (h2 : n ≤ big) : IntMulOk p.den q.den := mul_fit (den_abs hp) (den_abs hq) (by have : big = 67108864 := rfl; omega)
theorem sh_inj {p q : Rat} (h : sh p = sh q) : p = q := by
  unfold sh at h
  simp only [D.tup.injEq, List.cons.injEq, D.int.injEq, and_true] at h
  exact My.q_inj h.1 h.2
theorem beq_sh {p q : Rat} : beqD (sh p) (sh q) = decide (p = q) := by
  by_cases h : p = q
  · subst h
    rw [beqD_refl (by rfl)]
    simp
  · rw [beqD_ne (fun z => h (sh_inj z)), decide_eq_false h]
theorem kin_sh {p q : Rat} : kin (sh p) (sh q) = true := by rfl
theorem dep_sh {p : Rat} : dep (sh p) ≤ 60 := by
  show max 0 (max 0 0) + 1 ≤ 60
  decide
def oDice : Ow := fun _ o => ∃ x : Int, o = .lst [.int x] ∧ 0 ≤ x ∧ x < 2147483647
def spRoll : Sp := fun vs H Q _ => ∃ (a : Addr) (m x : Int), vs = [.ref a, .int m] ∧ 0 < m ∧ m < 1073741824 ∧ H a = some (.lst [.int x]) ∧ 0 ≤ x ∧ x < 2147483647 ∧ ∀ x' r : Int, 0 ≤ x' → x' < 2147483647 → 0 ≤ r → r < m → Q (.int r) (upd H a (.lst [.int x']))
theorem v_roll {X : Cx} {B : Bs} {Γ : Ga} {Ω : Om} {x : Str} {ps : List Str} {k : Nat} {a b : Expr} {p pos : Pos} {l : Addr} {m : Int} {R : D → Om → Prop} (o : OkF X.prog X.w X.K X.mg X.base CX0 k x ps spRoll) (hr : Room k X.A) (hg : Gl X x) (ha : P3 X Γ a (.raw (.ref l))) (hm : (l, oDice) ∈ Ω) (hb : P3 X Γ b (.int m)) (h1 : 0 < m) (h2 : m < 1073741824)
    (h : ∀ r : Int, 0 ≤ r → r < m → R (.int r) Ω) (hdb : (x == ("__debug__" : Str)) = false := by decide)
    (he : starEach [a, b] X.env = (false, eval a X.env) :: starEach [b] X.env := by rfl) (he2 : starEach [b] X.env = (false, eval b X.env) :: starEach [] X.env := by rfl) (hpl : (backTo pos (starEach [b] X.env)).any (·.1) = false := by rfl) : V3 X B (.Call (.Name x p) [a, b] [] pos) Γ Ω R := fun F σ H S pins s I =>
  pe_fn o hr hg (pl_cons ha (pl_cons hb pl_nil he2) he) hdb he hpl pins s σ H _ I ⟨F, S.fh, S.sl, fun vs H' F' pu i => by
    dsimp only
    rw [List.append_nil]
    obtain ⟨x, y, rfl, i1, i2⟩ := isL2 i
    cases isR i1
    cases isI i2
    have S1 := S.pur pu
    obtain ⟨fa, o', ha', ho⟩ := S1.own _ hm
    obtain ⟨x0, rfl, b1, b2⟩ := ho F' (Same.refl _)
    exact ⟨l, m, x0, rfl, h1, h2, ha', b1, b2, fun x' r c1 c2 c3 c4 => ⟨.int r, Ω, F', S1.turnIn hm (fun F2 _ => ⟨x', rfl, c1, c2⟩), pu.ff, i_int F', h r c3 c4⟩⟩⟩
def GlobD (K : PySem.W.Frag) (mg : Str → Option Value) (x : Str) (d : D) : Prop := ∃ (v : V) (u : Value), mg x = some u ∧ RelV v u ∧ ∀ F, Is K F d v
theorem p_globD {X : Cx} {Γ : Ga} {x : Str} {d : D} {pos : Pos} (h : GlobD X.K X.mg x d) (hg : Gl X x) (hd : (x == ("__debug__" : Str)) = false := by decide) : P3 X Γ (.Name x pos) d := by
  obtain ⟨v, u, hm, r, i⟩ := h
  exact p_glob hg hm r i hd
theorem p_neg {X : Cx} {Γ : Ga} {a : Expr} {i : Int} {pos : Pos} (h : P3 X Γ a (.int i)) : P3 X Γ (.UnaryOp .USub a pos) (.int (-i)) :=
  PE.of (pe_un un_neg h) fun σ H Q ⟨F, fh, sl, q⟩ => ⟨F, fh, sl, fun v H' F' p iv => ⟨i, isI iv, q _ H' F' p (i_int F')⟩⟩
structure Zs (mg : Str → Option Value) : Prop where
  len : mg "len" = none
  range : mg "range" = none
  list : mg "list" = none
  tuple : mg "tuple" = none
  int : mg "int" = none
  bool : mg "bool" = none
  str : mg "str" = none
  dict : mg "dict" = none
  isinstance : mg "isinstance" = none
  sum : mg "sum" = none
  enumerate : mg "enumerate" = none
  zip : mg "zip" = none
  ValueError : mg "ValueError" = none
  all : mg "all" = none
  any : mg "any" = none
  reversed : mg "reversed" = none
theorem emod_in {a b : Int} (p : 0 < b) : 0 ≤ a % b ∧ a % b < b := ⟨Int.emod_nonneg a (by omega), Int.emod_lt_of_pos a p⟩
theorem G_turnE {a b : Int} (ha : 0 ≤ a) (hb : 0 < b) : My.G b (a % b) = My.G a b := by
  rw [← Int.fmod_eq_emod_of_nonneg a (Int.le_of_lt hb)]
  exact My.G_turn ha hb
theorem dd_pos {p q : Rat} : (0 : Int) < p.den * q.den := Int.mul_pos (My.den_pos' p) (My.den_pos' q)
theorem p_eq {X : Cx} {Γ : Ga} {e : Expr} {d d' : D} (h : P3 X Γ e d') (q : d' = d) : P3 X Γ e d := q ▸ h
def C_cell : List D → D → Prop := fun ds d => ∃ (ns : List Int) (k : Nat), ds = [.scr ns, .int (k : Int)] ∧ d = .int (ns.getD k 0)
def C_whole : List D → D → Prop := fun ds d => ∃ i : Int, ds = [.int i] ∧ d = .bl true
def C_isShare : List D → D → Prop := fun ds d => ∃ q : Rat, ds = [sh q] ∧ d = .bl true ∧ 0 ≤ q
def spDice : Sp := fun vs H Q _ => ∃ c : Int, vs = [.int c] ∧ ∀ (p : Addr) (x : Int), H p = none → 0 ≤ x → x < 2147483647 → Q (.ref p) (upd H p (.lst [.int x]))
theorem mul_small {a b : Int} (h : b.natAbs < 2 ^ 64) : IntMulOk a b := IntMulOk.of_right (bits_abs h)
theorem v_dice {X : Cx} {B : Bs} {Γ : Ga} {Ω : Om} {x : Str} {ps : List Str} {k : Nat} {a : Expr} {p pos : Pos} {c : Int} {R : D → Om → Prop} (o : OkF X.prog X.w X.K X.mg X.base CX0 k x ps spDice) (hr : Room k X.A) (hg : Gl X x) (ha : P3 X Γ a (.int c)) (h : ∀ l, R (.raw (.ref l)) ((l, oDice) :: Ω)) (hdb : (x == ("__debug__" : Str)) = false := by decide)
    (he : starEach [a] X.env = (false, eval a X.env) :: starEach [] X.env := by rfl) : V3 X B (.Call (.Name x p) [a] [] pos) Γ Ω R := fun F σ H S pins s I =>
  pe_fn o hr hg (pl_cons ha pl_nil he) hdb he (by rfl) pins s σ H _ I ⟨F, S.fh, S.sl, fun vs H' F' pu i => by
    dsimp only
    rw [List.append_nil]
    obtain ⟨y, rfl, i1⟩ := isL1 i
    cases isI i1
    refine ⟨c, rfl, fun l x0 hl b1 b2 => ⟨.raw (.ref l), (l, oDice) :: Ω, F', ?_, pu.ff, i_raw F', h l⟩⟩
    exact S.new (pu.trans (Pur.layOwn pu.fh hl)) (pu.hh.free hl) (pu.fh.free hl) upd_same fun F2 _ => ⟨x0, rfl, b1, b2⟩⟩
end L3
set_option Elab.async false
set_option linter.all false
set_option maxRecDepth 100000
set_option maxHeartbeats 4000000
namespace L3
open PySem PySem.Spec PySem.Calls PyProof.Rows L2
def tb {α : Type} (n : Nat) (f : Nat → α) : List α := (List.range n).map f
theorem tb_get {α : Type} {n k : Nat} {f : Nat → α} (h : k < n) : (tb n f)[k]? = some (f k) := by
  unfold tb
  rw [List.getElem?_map, List.getElem?_range h]
  rfl
theorem tb_len {α : Type} {n : Nat} {f : Nat → α} : (tb n f).length = n := by unfold tb; simp
theorem tb_congr {α : Type} {n : Nat} {f g : Nat → α} (h : ∀ j, j < n → f j = g j) : tb n f = tb n g := List.map_congr_left fun j hj => h j (List.mem_range.mp hj)
end L3
namespace L3
open PySem PySem.Spec PySem.Calls PyProof.Rows L2
theorem sIx_nat' {n d k : Nat} (h : k ≤ n) : HT.sIx n d (some (k : Int)) = k := by rw [HT.sIx_nat]; omega
theorem cut_take {ds : List D} {k : Nat} (h : k ≤ ds.length) : cutD ds none (some (k : Int)) = ds.take k := by
  unfold cutD
  rw [HT.sIx_none, sIx_nat' h]
  simp
end L3
namespace L3
open PySem PySem.Spec PySem.Calls PyProof.Rows L2
def nums (lo n : Nat) : List D := tb n fun j => .int ((lo + j : Nat) : Int)
theorem nums_len {lo n : Nat} : (nums lo n).length = n := tb_len
theorem nums_lt {lo n i : Nat} {d : D} (h : (nums lo n)[i]? = some d) : i < n ∧ d = .int ((lo + i : Nat) : Int) := by
  have hi := (List.getElem?_eq_some_iff.mp h).1
  rw [nums_len] at hi
  unfold nums at h
  rw [tb_get hi] at h
  cases h
  exact ⟨hi, rfl⟩
theorem rngD_nums {lo n : Nat} : rngD (lo : Int) n = nums lo n := by
  unfold rngD nums
  refine tb_congr fun j _ => ?_
  congr 1
theorem i_rangeN {X : Cx} {Γ : Ga} {tg a : Expr} {p pos : Pos} {j : Int} {n : Nat} (hm : X.mg "range" = none) (hg : Gl X "range") (ha : P3 X Γ a (.int j)) (hj : j = (n : Int)) (hn : n < 2 ^ 62) (hs : starEach [a] X.env = [(false, eval a X.env)] := by rfl) : I3 X Γ tg (.Call (.Name "range" p) [a] [] pos) (nums 0 n) := by
  subst hj
  have h := i_range1 (tg := tg) (p := p) (pos := pos) hm hg ha (by omega) (by omega) hs
  rw [Int.toNat_natCast, show (0 : Int) = ((0 : Nat) : Int) from rfl, rngD_nums] at h
  exact h
end L3
set_option Elab.async false
set_option linter.all false
set_option maxRecDepth 100000
set_option maxHeartbeats 4000000
namespace L3
open PySem PySem.Spec PySem.Calls PyProof.Rows L2
section
variable {X : Cx} {B : Bs} {Γ : Ga} {Ω : Om} {E : E3} {rest body : List Stmt} {tg iter a b e : Expr} {es : List Expr} {d : D} {ds : List D} {pos pos' p : Pos} {RL : List D → Om → Prop} {RT : Bool → Om → Prop}
theorem compV_read {elt : Expr} {sc : Scope} {N : List Str} {nt : Nat} {caps : List Nat} {R : D → Om → Prop} {F : Hp} {σ : L2.St} {H : Hp} {Q : VK}
    (h : IV3 X B tg iter Γ Ω fun ds Ω1 => ∃ J : Nat → List D → Om → Prop, J 0 [] Ω1 ∧ (∀ i gs Ω', J i gs Ω' → gs.length < sizeLine) ∧
      (∀ c i d gs Ω', ds[i]? = some d → J i gs Ω' → ∃ Γ1, G3 (X.comp sc N c) tg (capG nt caps Γ) d Γ1 ∧ Sub (capG nt caps Γ) Γ1 ∧ ∀ q : Addr × Ow, V3 (X.comp sc N c) B elt Γ1 (q :: Ω') fun e Ω2 => ∃ Ω3, Ω2.Perm (q :: Ω3) ∧ J (i + 1) (gs ++ [e]) Ω3) ∧
      ∀ a gs Ω', J ds.length gs Ω' → R (.raw (.ref a)) ((a, oLst X.K gs) :: Ω'))
    (S0 : Sat X.K B Γ Ω F σ H) (hQ : ∀ v H', (∃ d Ω' F', Sat X.K B Γ Ω' F' σ H' ∧ Same F F' ∧ Is X.K F' d v ∧ R d Ω') → Q v H') :
    tComp nt caps (WI X tg iter) (fun c => gW (X.comp sc N c) tg) tTrue (fun c => WE (X.comp sc N c) elt) σ H Q := by
  refine (h F σ H S0).mono fun Jt H1 ⟨ds, Ω1, F1, S1, p1, w, J, h0, hz, step, hd⟩ D hD c =>
    ⟨fun i m σ' ys H' => i + m = ds.length ∧ ∃ gs Ω' F', Same F1 F' ∧ Sat X.K B (capG nt caps Γ) ((D, oLst X.K gs) :: Ω') F' σ' H' ∧ H' D = some (.lst ys) ∧ IsL X.K F' gs ys ∧ J i gs Ω', ?_, ?_⟩
  · refine ⟨ds.length, by omega, [], Ω1, F1, Same.refl _, ?_, upd_same, IsL.nil, h0⟩
    exact (S1.new (Pur.layOwn S1.fh hD) hD (S1.fh.free hD) upd_same fun F2 e => ⟨[], rfl, IsL.nil⟩).slots (Sl.cap S1.sl)
  · rintro i m σ' ys H' ⟨hm, gs, Ω', F', f', S', hH, il, j⟩
    refine ⟨hH, by rw [il.len]; exact hz i gs Ω' j, ?_⟩
    obtain ⟨w1, w2⟩ := w i F' H' f' S'.fh
    cases z : ds[i]? with
    | none =>
      have hl : ds.length ≤ i := List.getElem?_eq_none_iff.mp z
      have e : i = ds.length := by omega
      subst e
      exact .inl ⟨w2 hl, hQ _ _ ⟨.raw (.ref D), _, F', S'.slots (S1.sl.mono f'), p1.trans f', i_raw F', hd D gs Ω' j⟩⟩
    | some d =>
      have hl : i < ds.length := (List.getElem?_eq_some_iff.mp z).1
      obtain ⟨go, y⟩ := w1 d z
      obtain ⟨Γ1, ⟨g, pg, gq⟩, sub, he⟩ := step c i d gs Ω' z j
      refine .inr ⟨go, fun x H2 hy pins s u I2 r => ?_⟩
      obtain ⟨F2, p2, ix⟩ := y x H2 hy
      refine pg pins s σ' H2 x u _ I2 r (gq F2 σ' H2 x _ p2.fh ix (S'.sl.mono p2.ff) I2.len fun σ3 sl3 _ => ?_)
      unfold tTrue
      dsimp only
      rw [if_pos rfl]
      refine WE.mono (he (D, oLst X.K gs) F2 σ3 H2 ((S'.pur p2).slots sl3)) fun v H5 ⟨e, Ω2, F5, S5, f5, iv, Ω3, pm, j5⟩ => ?_
      have S5' := S5.perm pm.symm
      obtain ⟨fD, o, hD5, ho⟩ := S5'.own (D, oLst X.K gs) (by simp)
      obtain ⟨ys', rfl, il'⟩ := ho F5 (Same.refl _)
      refine ⟨ys', hD5, by rw [il'.len]; exact hz i gs Ω' j, m - 1, by omega, by omega, gs ++ [e], Ω3, F5, f'.trans (p2.ff.trans f5), ?_, upd_same, il'.append (IsL.cons iv IsL.nil), j5⟩
      exact (S5'.turn fun F6 e6 => ⟨_, rfl, (il'.mono e6).append (IsL.cons (iv.mono e6) IsL.nil)⟩).slots (S5'.sl.sub sub)
theorem w_setCV {elt : Expr} {sc SX : Scope} {N XN : List Str} {nt : Nat} {caps : List Nat} {y : Str} {py : Pos} {i : Nat} {spos : Pos} (S : CompOk SX sc XN N nt caps) (hnd : X.N.Nodup) (hix : X.N[i]? = some y) (hy : Loc X.env.scope y)
    (h : IV3 X B tg iter Γ Ω fun ds Ω1 => ∃ J : Nat → List D → Om → Prop, J 0 [] Ω1 ∧ (∀ i gs Ω', J i gs Ω' → gs.length < sizeLine) ∧
      (∀ c i d gs Ω', ds[i]? = some d → J i gs Ω' → ∃ Γ1, G3 (X.comp sc N c) tg (capG nt caps Γ) d Γ1 ∧ Sub (capG nt caps Γ) Γ1 ∧ ∀ q : Addr × Ow, V3 (X.comp sc N c) B elt Γ1 (q :: Ω') fun e Ω2 => ∃ Ω3, Ω2.Perm (q :: Ω3) ∧ J (i + 1) (gs ++ [e]) Ω3) ∧
      ∀ a gs Ω', J ds.length gs Ω' → W3 X B rest (Γ.set i (some (.raw (.ref a)))) ((a, oLst X.K gs) :: Ω') E)
    (hsw : swapsWith (.ListComp elt [⟨tg, iter, [], 0⟩] sc pos) (some (.Name y py)) spos.line X.env = pure true := by rfl) (hc : X.calm = true := by rfl) (hX : X.env.scope = SX := by rfl) (hN : X.N = XN := by rfl)
    (hs : ∀ x, foldedSetIterable iter X.env x = pure x := by intro _; rfl) (hf : X.fn y = true ∨ X.env.scope.names.lookup y = some .local := by first | exact .inl rfl | exact .inr rfl) : W3 X B (.Assign [.Name y py] (.ListComp elt [⟨tg, iter, [], 0⟩] sc pos) spos :: rest) Γ Ω E := fun F σ H S' pins s I => by
  refine pss_cons (ps_comp S hnd hix hy pi_w (fun c => pg_w) (fun c => pts_nil (c := c)) (fun c => pe_w) hsw hc hX hN hs hf) pss_w pins s σ H _ I (compV_read (R := fun d Ω' => W3 X B rest (Γ.set i (some d)) Ω' E) (Q := fun x H1 => gName i x σ H1 (WS X rest (E.to X.K B F))) h S' ?_)
  rintro v H' ⟨d, Ω', F', S1, f1, iv, w⟩
  exact to_mono f1 (w F' _ H' (S1.slots (Sl.set S1.sl (by rw [I.len]; exact (List.getElem?_eq_some_iff.mp hix).1) iv)))
end
theorem own_uniq {Ω : Om} (nd : (Ω.map (·.1)).Nodup) : ∀ {a : Addr} {w w' : Ow}, (a, w) ∈ Ω → (a, w') ∈ Ω → w = w' := by
  induction Ω with
  | nil => intro a w w' h; cases h
  | cons r Ω ih =>
    intro a w w' h h'
    rw [List.map_cons, List.nodup_cons] at nd
    rcases List.mem_cons.mp h with z | z
    · rcases List.mem_cons.mp h' with z' | z'
      · rw [← z] at z'; injection z' with _ e; exact e.symm
      · exact absurd (List.mem_map.mpr ⟨(a, w'), z', by rw [← z]⟩) nd.1
    · rcases List.mem_cons.mp h' with z' | z'
      · exact absurd (List.mem_map.mpr ⟨(a, w), z, by rw [← z']⟩) nd.1
      · exact ih nd.2 z z'
def spD (K : PySem.W.Frag) (n : Nat) (C0 : List D → Prop) (C : List D → D → Prop) : Sp := fun vs H Q _ => ∃ (a : Addr) (us : List V) (ds : List D) (F : Hp) (x : Int), vs = .ref a :: us ∧ ds.length + 1 = n ∧ Same F H ∧ F a = none ∧ H a = some (.lst [.int x]) ∧ 0 ≤ x ∧ x < 2147483647 ∧ IsL K F ds us ∧ C0 ds ∧
  ∀ d, C ds d → ∀ (v : V) (H' F' : Hp) (x' : Int), Same F F' → Same F' H' → (∀ b o, b ≠ a → H b = some o → H' b = some o) → (∀ b, F' b ≠ none → F b ≠ none ∨ H b = none) → F' a = none → H' a = some (.lst [.int x']) → 0 ≤ x' → x' < 2147483647 → Is K F' d v → Q v H'
theorem spD.len {K : PySem.W.Frag} {n : Nat} {C0 : List D → Prop} {C : List D → D → Prop} {vs : List V} {H : Hp} {Q : VK} {E : XK} (h : spD K n C0 C vs H Q E) : vs.length = n := by
  obtain ⟨a, us, ds, F, x, rfl, l, _, _, _, _, _, i, _⟩ := h
  rw [List.length_cons, i.len, l]
section
variable {P : Program} {w : World} {K : PySem.W.Frag} {mg : Str → Option Value} {base : Heap} {x : Str} {st : Stmt} {N ps : List Str} {k n : Nat}
theorem ok_draws {C0 : List D → Prop} {C : List D → D → Prop} (d : DefK K mg x st ps) (S : FnScope N ps (defScope st)) (hn : ps.length = n)
    (body : ∀ (f : Addr) (cdv : Value) (A : Around) (outer : List Env) (s : Shared) (H : Hp) (E : XK), Room k (A.deeper (envOfC x (defScope st) s.heap.objs.size f cdv)) → ∀ (a : Addr) (ds : List D), C0 ds → ∀ B : Bs,
      W3 (cx0 P w K mg base N x st f cdv A outer s H E) B (defBody st) (startG N (.raw (.ref a) :: ds)) [(a, oDice)] ⟨fun _ _ => False, fun r Ω => C ds r ∧ Ω = [(a, oDice)], fun _ _ => False, fun _ _ => False⟩) :
    OkF P w K mg base CX0 (k + 1) x ps (spD K n C0 C) := by
  refine d.ok S (fun vs H Q E h => (spD.len h).trans hn.symm) fun f cdv A outer s H vs Q E hr h => ⟨_, pss_w, ?_⟩
  obtain ⟨a, us, ds, F, x0, rfl, hl, fh, fa, ha, b1, b2, il, c0, q⟩ := h
  have il' : IsL K F (.raw (.ref a) :: ds) (.ref a :: us) := IsL.cons (i_raw F) il
  have S0 : Sat K ⟨[a], F, H⟩ (startG N (.raw (.ref a) :: ds)) [(a, oDice)] F (L2.start N (.ref a :: us)) H := by
    refine ⟨Same.refl _, fh, fun _ q => .inl q, fun _ _ _ e => e, by simp, fun p hp => ?_, fun p hp => ?_, Sl.start il'⟩
    · rw [List.mem_singleton.mp hp]; exact .inl (by simp)
    · rw [List.mem_singleton.mp hp]; exact ⟨fa, _, ha, fun _ _ => ⟨x0, rfl, b1, b2⟩⟩
  refine ends_mono (D := E3.to K ⟨[a], F, H⟩ F ⟨fun _ _ => False, fun r Ω => C ds r ∧ Ω = [(a, oDice)], fun _ _ => False, fun _ _ => False⟩) (D' := { nx := fun _ H' => Q .non H', rt := Q }) ?_ ?_ ?_ ?_ (body f cdv A outer s H E hr a ds c0 ⟨[a], F, H⟩ F _ H S0)
  · rintro σ' H' ⟨_, _, _, _, _, z⟩
    exact z.elim
  · rintro v H' ⟨r, Ω', F', ⟨σ', S'⟩, f', iv, hC, rfl⟩
    obtain ⟨fa', o', ha', ho⟩ := S'.own (a, oDice) (by simp)
    obtain ⟨x', rfl, c1, c2⟩ := ho F' (Same.refl _)
    refine q r hC v H' F' x' S'.f0 S'.fh (fun b o hb e => S'.kp b o (by simpa using hb) e) (fun b hb => ?_) fa' ha' c1 c2 iv
    rcases S'.fr b hb with z | z | z
    · exact .inl z
    · exact .inr z
    · have e : b = a := by simpa using z
      subst e
      exact absurd fa' hb
  · rintro σ' H' ⟨_, _, _, _, _, z⟩
    exact z.elim
  · rintro σ' H' ⟨_, _, _, _, _, z⟩
    exact z.elim
end
theorem v_callD {X : Cx} {B : Bs} {Γ : Ga} {Ω : Om} {x : Str} {ps : List Str} {k n : Nat} {C0 : List D → Prop} {C : List D → D → Prop} {a : Expr} {es : List Expr} {p pos : Pos} {l : Addr} {R : D → Om → Prop} (o : OkF X.prog X.w X.K X.mg X.base CX0 k x ps (spD X.K n C0 C)) (hr : Room k X.A) (hg : Gl X x) (ha : P3 X Γ a (.raw (.ref l))) (hm : (l, oDice) ∈ Ω)
    (h : VL3 X B es Γ Ω fun ds Ω1 => Ω1 = Ω ∧ ds.length + 1 = n ∧ C0 ds ∧ ∀ d, C ds d → R d Ω) (hdb : (x == ("__debug__" : Str)) = false := by decide)
    (he : starEach (a :: es) X.env = (false, eval a X.env) :: starEach es X.env := by rfl) (hpl : (backTo pos (starEach es X.env)).any (·.1) = false := by rfl) : V3 X B (.Call (.Name x p) (a :: es) [] pos) Γ Ω R := fun F σ H S pins s I =>
  pe_fn o hr hg (pa_cons ha pa_w he) hdb he hpl pins s σ H _ I ⟨F, S.fh, S.sl, fun v H1 F1 p1 i1 => (h F1 σ H1 (S.pur p1)).mono fun us H2 ⟨ds, Ω2, F2, S2, f2, il, e2, hn, c0, q⟩ => by
    dsimp only
    rw [List.append_nil]
    subst e2
    cases isR i1
    obtain ⟨fa, o', ha', ho⟩ := S2.own _ hm
    obtain ⟨x0, rfl, b1, b2⟩ := ho F2 (Same.refl _)
    refine ⟨l, us, ds, F2, x0, rfl, hn, S2.fh, fa, ha', b1, b2, il, c0, fun d hd v H' F' x' g1 g2 g3 g4 g5 g6 g7 g8 iv => ⟨d, Ω2, F', ?_, p1.ff.trans (f2.trans g1), iv, q d hd⟩⟩
    have od := S2.od _ hm
    refine ⟨S2.f0.trans g1, g2, fun b hb => ?_, fun b o hb e => ?_, S2.nd, S2.od, fun r hr => ?_, S2.sl.mono g1⟩
    · rcases g4 b hb with z | z
      · exact S2.fr b z
      · exact (S2.freeB z).elim (fun w => .inr (.inl w)) fun w => .inr (.inr w)
    · by_cases hbl : b = l
      · subst hbl
        rcases od with z | z
        · exact absurd z hb
        · have z' : B.H b = none := z
          rw [z'] at e; cases e
      · exact g3 b o hbl (S2.kp b o hb e)
    · obtain ⟨h1, o2, h2, h3⟩ := S2.own r hr
      by_cases hrl : r.1 = l
      · have er : r = (l, oDice) := by
          obtain ⟨r1, r2⟩ := r
          dsimp only at hrl
          subst hrl
          have := own_uniq S2.nd hr hm
          rw [this]
        subst er
        exact ⟨g5, _, g6, fun _ _ => ⟨x', rfl, g7, g8⟩⟩
      · refine ⟨?_, o2, g3 _ _ hrl h2, fun F3 e3 => h3 F3 (g1.trans e3)⟩
        cases zz : F' r.1 with
        | none => rfl
        | some u =>
          rcases g4 r.1 (by rw [zz]; simp) with z | z
          · exact absurd h1 z
          · rw [h2] at z; cases z⟩
end L3
set_option Elab.async false
set_option linter.all false
set_option maxRecDepth 100000
set_option maxHeartbeats 4000000
namespace L3
open PySem PySem.Spec PySem.Calls PyProof.Rows L2
end L3
set_option Elab.async false
set_option linter.all false
set_option maxRecDepth 100000
set_option maxHeartbeats 4000000
namespace L3
open PySem PySem.Spec PySem.Calls PyProof.Rows L2
end L3
set_option Elab.async false
set_option linter.all false
set_option maxRecDepth 100000
set_option maxHeartbeats 4000000
namespace L3
open PySem PySem.Spec PySem.Calls PyProof.Rows L2
def spLaw3 (K : PySem.W.Frag) : Sp := fun vs H Q _ => ∃ (a : Addr) (ns : List Int), vs = [.ref a] ∧ SqL K H a (ns.map V.int) ∧ ns.length ≤ 63 ∧ ∀ H', Q (.bl true) H'
theorem ok_law3 {P : Program} {w : World} {K : PySem.W.Frag} {mg : Str → Option Value} {base : Heap} {f : Addr} {fd : FuncData} {st : Stmt} {N : List Str} {k : Nat} {x : Str} (F : Fun K "law" "law" st f fd) (S : FnScope N [x] (defScope st))
    (body : ∀ (cdv : Value) (A : Around) (outer : List Env) (s : Shared) (H : Hp) (E : XK), Room k (A.deeper (envOfC "law" (defScope st) s.heap.objs.size f cdv)) → ∀ (ns : List Int), ns.length ≤ 63 → ∀ B : Bs, B.M = [] →
      W3 (cx0 P w K mg base N "law" st f cdv A outer s H E) B (defBody st) (startG N [.scr ns]) [] ⟨fun _ _ => False, fun r _ => r = .bl true, fun _ _ => False, fun _ _ => False⟩) : FnOk P w K mg base CX0 (k + 1) f fd [x] (spLaw3 K) := by
  refine F.ok S (fun vs H Q E h => ?_) fun cdv A outer s H vs Q E hr h => ⟨_, pss_w, ?_⟩
  · obtain ⟨a, ns, rfl, _⟩ := h
    rfl
  · obtain ⟨a, ns, rfl, hS, hlen, q⟩ := h
    have il : IsL K H [.scr ns] [.ref a] := IsL.cons (by simp only [Is]; exact ⟨a, rfl, hS⟩) IsL.nil
    refine ends_mono (D := E3.to K ⟨[], H, H⟩ H ⟨fun _ _ => False, fun r _ => r = .bl true, fun _ _ => False, fun _ _ => False⟩) (D' := { nx := fun _ H' => Q .non H', rt := Q }) ?_ ?_ ?_ ?_ (body cdv A outer s H E hr ns hlen ⟨[], H, H⟩ rfl H _ H (Sat.entry (Same.refl _) il))
    · rintro σ' H' ⟨_, _, _, _, _, z⟩
      exact z.elim
    · rintro v H' ⟨r, Ω', F', ⟨σ', S'⟩, f', iv, rfl⟩
      rw [isB iv]
      exact q H'
    · rintro σ' H' ⟨_, _, _, _, _, z⟩
      exact z.elim
    · rintro σ' H' ⟨_, _, _, _, _, z⟩
      exact z.elim
theorem sp_law3 {K : PySem.W.Frag} {H : Hp} {a : Addr} {ns : List Int} (h : ns.length ≤ 63) (hS : SqL K H a (ns.map V.int)) : spLaw3 K [.ref a] H (fun v _ => v = .bl true) fun _ _ _ => False := ⟨a, ns, rfl, hS, h, fun _ => rfl⟩
theorem plnL_all : ∀ {ds : List D}, (∀ d ∈ ds, pln d = true) → plnL ds = true
  | [], _ => by rw [plnL]
  | d :: ds, h => by rw [plnL, h d (by simp), plnL_all fun e he => h e (List.mem_cons_of_mem _ he)]; rfl
theorem depL_le {k : Nat} : ∀ {ds : List D}, (∀ d ∈ ds, dep d ≤ k) → depL ds ≤ k
  | [], _ => by rw [depL]; exact Nat.zero_le _
  | d :: ds, h => by
    rw [depL]
    exact Nat.max_le.mpr ⟨h d (by simp), depL_le fun e he => h e (List.mem_cons_of_mem _ he)⟩
end L3
namespace L3
open PySem PySem.Spec PySem.Calls PyProof.Rows L2
theorem globPair {K : PySem.W.Frag} {h : Heap} {mg : Str → Option Value} (X : K.In h) (G : h.Ns mainGlobals mg) {x : Str} {l : Addr} {od : Option Addr} {i j : Int} {t u : Tok} {n : Nat} {sl : Array (Option Value)} (a : PySem.W.nsIn K mainGlobals x = some (some (.ref l)))
    (lk : K.lookup l = some ⟨.type "tuple", od, .seq #[.int i t, .int j u] n, sl⟩) : GlobD K mg x (.tup [.int i, .int j]) :=
  ⟨.ref l, .ref l, PySem.W.mg_of X G a, rfl, fun F => Is.tupI (xs := [.int i, .int j]) (.inr ⟨_, _, _, lk, rfl, rfl, by show 2 ≤ sizeLine; decide, .cons ⟨_, rfl⟩ (.cons ⟨_, rfl⟩ .nil)⟩) (IsL.cons (i_int F) (IsL.cons (i_int F) IsL.nil))⟩
end L3
set_option Elab.async false
set_option linter.all false
set_option maxRecDepth 100000
set_option maxHeartbeats 4000000
namespace L3
open PySem PySem.Spec PySem.Calls PyProof.Rows L2
theorem dv_le {a g : Int} (h : 0 ≤ a) (hg : 0 < g) : 0 ≤ a / g ∧ a / g ≤ a := ⟨Int.ediv_nonneg h (Int.le_of_lt hg), Int.ediv_le_self _ h⟩
theorem dv_fit {a b : Int} {n : Nat} (h : 0 ≤ b ∧ b ≤ a) (ha : a.natAbs < 2 ^ n) : b.natAbs < 2 ^ n := by omega
theorem pow_mono {m n : Nat} (h : m ≤ n) : 2 ^ m ≤ 2 ^ n := Nat.pow_le_pow_right (by decide) h
theorem sh_mul (p q : Rat) : sh (p * q) = D.tup [D.int ((Rat.divInt p.num q.den).num * (Rat.divInt q.num p.den).num), D.int (((Rat.divInt p.num q.den).den : Int) * ((Rat.divInt q.num p.den).den : Int))] := by
  unfold sh
  rw [My.mul_num, My.mul_den, ← My.num_share (My.den_pos' q), ← My.num_share (My.den_pos' p), ← My.den_share (My.den_pos' q), ← My.den_share (My.den_pos' p), Int.natCast_mul, Int.natCast_ediv, Int.natCast_ediv,
    Int.fdiv_eq_ediv_of_nonneg _ (Int.le_of_lt (My.G_pos (My.den_pos' q))), Int.fdiv_eq_ediv_of_nonneg _ (Int.le_of_lt (My.G_pos (My.den_pos' p))), Int.fdiv_eq_ediv_of_nonneg _ (Int.le_of_lt (My.G_pos (My.den_pos' q))), Int.fdiv_eq_ediv_of_nonneg _ (Int.le_of_lt (My.G_pos (My.den_pos' p)))]
  rfl
end L3
set_option Elab.async false
set_option linter.all false
set_option maxRecDepth 100000
set_option maxHeartbeats 4000000
namespace L3
open PySem PySem.Spec PySem.Calls PyProof.Rows L2
end L3
set_option Elab.async false
set_option linter.all false
set_option maxRecDepth 100000
set_option maxHeartbeats 4000000
namespace L2
open PySem PySem.Spec PySem.Calls PyProof.Rows
section
variable {X : Cx}
theorem op_le_str : OpR X (compareOp .LtE) (fun x y H Q => ∃ i j, x = .str i ∧ y = .str j ∧ Q (.bl (!decide (j.cps.toList < i.cps.toList))) H) := by
  rintro pins s σ H x y v u Q I rx ry ⟨i, j, rfl, rfl, q⟩
  obtain ⟨t1, rfl⟩ := rx
  obtain ⟨t2, rfl⟩ := ry
  exact PySem.P.le_str (fin_bl I q rfl)
def Its (x : Str) : It := ⟨fun i _ => i < x.cps.size, fun i H v H' => H' = H ∧ ∃ c, x.cps[i]? = some c ∧ v = .str ⟨#[c]⟩, fun i _ => x.cps.size ≤ i⟩
theorem turn_str {P : Program} {w : World} {K : PySem.W.Frag} {tg : Expr} (x : Str) (tk : Tok) (it : Addr) : Turn P w K tg (Its x) [it] it (fun i h => h.IsStrIter it "str_ascii_iterator" x tk i) where
  mem := by simp
  obj := fun i h st b hb => by
    obtain ⟨o, e1, c1, d1⟩ := st
    rw [List.mem_singleton.mp hb]
    exact ⟨o, e1, fun v z => by rw [d1] at z; cases z⟩
  keep := fun i h h' ⟨o, e1, r1⟩ k => ⟨o, k it (by simp) o e1, r1⟩
  item := by
    intro X hP hw hK hc i pins s σ H E I hf st hg
    subst hP hw hK
    obtain ⟨f0, f1, f2, f3, f4, f5⟩ := hf it (by simp)
    have hi : i < x.cps.size := hg
    have hx : x.cps[i]? = some x.cps[i] := Array.getElem?_eq_getElem hi
    refine wpAny_pyNext_ascii_item st hx fun h' st' sb => ?_
    have I1 : Inv X pins σ H { s with heap := h', toks := s.toks + 1 } := I.turned (fun b o hb e => (sb.2 b hb).trans e) f0 f1 f3 f4 f5
    obtain ⟨o, e1, c1, d1⟩ := id st'
    exact ⟨_, rfl, go_of (s := { s with heap := h', toks := s.toks + 1 }) e1 c1 d1 (by decide) ⟨.str ⟨#[x.cps[i]]⟩, H, I1, ⟨_, rfl⟩, ⟨rfl, _, hx, rfl⟩, st', fun b hb => (hf b hb).1⟩⟩
  done := by
    intro X hP hw hK hc i pins s σ H E I hf st hg
    subst hP hw hK
    obtain ⟨f0, f1, f2, f3, f4, f5⟩ := hf it (by simp)
    have hi : x.cps.size ≤ i := hg
    exact wpAny_pyNext_ascii_end (I.ok.hd hc) st (Array.getElem?_eq_none_iff.mpr hi) fun h' eb => ⟨rfl, I.turned (t' := s.toks) (fun b o hb e => eb b o hb e) f0 f1 f3 f4 f5⟩
  self := fun _ _ _ _ _ st h => wpAny_pyIter_striter_ascii st h
def iStr (tl : TE) : TI := fun σ H R => tl σ H fun v H1 => ∃ x : Str, v = .str x ∧ x.cps.all (· < 128) = true ∧ R (Its x) H1
theorem pi_str {tg l : Expr} {tl : TE} (hl : PE X l tl) : PI X tg l (iStr tl) := by
  intro pins s σ H R I h
  refine thn (hl pins s σ H _ I h) fun v s1 ⟨y, H1, I1, r1, x, e1, ha, q⟩ => ?_
  subst e1
  obtain ⟨tk, rfl⟩ := r1
  refine wpAny_pyIter_ascii ha ⟨s1.heap.objs.size, [s1.heap.objs.size], _, _, H1, rfl, I1.kept (t' := s1.toks) fun b o e => Heap.get?_push_of_some _ e, turn_str x tk _, ⟨_, Heap.get?_push_size _ rfl, rfl, rfl⟩, fun b hb => ?_, q⟩
  rw [List.mem_singleton.mp hb]
  exact I1.fpOk (Nat.le_refl _) (I1.hok.fresh (Nat.le_refl _))
theorem bls_get {bs : List Bool} {us : List Value} (r : Vals (bs.map V.bl) us) (i : Nat) (v : Value) (h : us.toArray[i]? = some v) : v = .bool (bs.getD i false) := by
  have hl := r.length
  rw [List.length_map] at hl
  have h' : us[i]? = some v := by simpa using h
  have hi : i < bs.length := by rw [hl]; exact (List.getElem?_eq_some_iff.mp h').1
  have e1 : (bs.map V.bl)[i]? = some (V.bl bs[i]) := by rw [List.getElem?_map, List.getElem?_eq_getElem hi]; rfl
  obtain ⟨u, hu, ru⟩ := r.get e1
  rw [h'] at hu
  cases hu
  rw [List.getD_eq_getElem?_getD, List.getElem?_eq_getElem hi]
  exact ru
theorem range_bls (bs : List Bool) : (List.range bs.length).map (fun i => bs.getD i false) = bs := by
  refine List.ext_getElem? fun i => ?_
  rw [List.getElem?_map]
  by_cases hi : i < bs.length
  · rw [List.getElem?_range hi, List.getElem?_eq_getElem hi]
    simp [List.getD_eq_getElem?_getD, List.getElem?_eq_getElem hi]
  · rw [List.getElem?_eq_none_iff.mpr (by simpa using hi), List.getElem?_eq_none_iff.mpr (by omega)]
    rfl
theorem call_all3 (hc : X.calm = true) : CallR X (.builtin "all") (fun xs H Q => ∃ (a : Addr) (bs : List Bool), xs = [.ref a] ∧ SqL X.K H a (bs.map V.bl) ∧ Q (.bl (bs.all id)) H) := by
  rintro pins s σ H xs us Q I r ⟨a, bs, rfl, hl, q⟩
  obtain ⟨u, rfl, rx⟩ := vals1 r
  cases rx
  obtain ⟨its, rv, p, _⟩ := I.list hl
  have hz : its.toArray.size = bs.length := by have := rv.length; rw [List.length_map] at this; simpa using this.symm
  refine call_all_walk (wpAny_pyIter_list p.isList ⟨s.heap.objs.size, _, _, _, _, _, fun i => bs.getD i false, rfl, Walks.list (show X.A.in1.handled = none from I.ok.hd hc) s.heap.objs.size a (Nat.ne_of_lt (let ⟨_, e, _⟩ := p.isList; Heap.lt_size e)) its.toArray, ⟨⟨_, Heap.get?_push_size _ rfl, rfl, rfl⟩, p.isList.at fun o e => Heap.get?_push_of_some _ e⟩, ?_, ?_⟩)
  · intro i v s' Q' E' hv hq
    rw [bls_get rv i v hv]
    exact wpAny_truthy_bool hq
  · intro h' tk hk
    refine ⟨.bl (bs.all id), H, I.kept fun b o e => hk b o (fun z => absurd (Heap.lt_size e) (by rw [List.mem_singleton.mp z]; exact Nat.lt_irrefl _)) (Heap.get?_push_of_some _ e), ?_, q⟩
    show Value.bool _ = Value.bool _
    rw [hz, show (List.range bs.length).all (fun i => bs.getD i false) = ((List.range bs.length).map fun i => bs.getD i false).all id by rw [List.all_map]; rfl, range_bls]
theorem call_any3 (hc : X.calm = true) : CallR X (.builtin "any") (fun xs H Q => ∃ (a : Addr) (bs : List Bool), xs = [.ref a] ∧ SqL X.K H a (bs.map V.bl) ∧ Q (.bl (bs.any id)) H) := by
  rintro pins s σ H xs us Q I r ⟨a, bs, rfl, hl, q⟩
  obtain ⟨u, rfl, rx⟩ := vals1 r
  cases rx
  obtain ⟨its, rv, p, _⟩ := I.list hl
  have hz : its.toArray.size = bs.length := by have := rv.length; rw [List.length_map] at this; simpa using this.symm
  refine call_any_walk (wpAny_pyIter_list p.isList ⟨s.heap.objs.size, _, _, _, _, _, fun i => bs.getD i false, rfl, Walks.list (show X.A.in1.handled = none from I.ok.hd hc) s.heap.objs.size a (Nat.ne_of_lt (let ⟨_, e, _⟩ := p.isList; Heap.lt_size e)) its.toArray, ⟨⟨_, Heap.get?_push_size _ rfl, rfl, rfl⟩, p.isList.at fun o e => Heap.get?_push_of_some _ e⟩, ?_, ?_⟩)
  · intro i v s' Q' E' hv hq
    rw [bls_get rv i v hv]
    exact wpAny_truthy_bool hq
  · intro h' tk hk
    refine ⟨.bl (bs.any id), H, I.kept fun b o e => hk b o (fun z => absurd (Heap.lt_size e) (by rw [List.mem_singleton.mp z]; exact Nat.lt_irrefl _)) (Heap.get?_push_of_some _ e), ?_, q⟩
    show Value.bool _ = Value.bool _
    rw [hz, show (List.range bs.length).any (fun i => bs.getD i false) = ((List.range bs.length).map fun i => bs.getD i false).any id by rw [List.any_map]; rfl, range_bls]
end
end L2
namespace L3
open PySem PySem.Spec PySem.Calls PyProof.Rows L2
theorem IsL.of_bls {K : PySem.W.Frag} {H : Hp} : ∀ {bs : List Bool} {xs : List V}, IsL K H (bs.map D.bl) xs → xs = bs.map V.bl
  | [], _, h => by simp only [List.map_nil, IsL] at h; subst h; rfl
  | n :: ns, _, h => by
    simp only [List.map_cons, IsL] at h
    obtain ⟨x, r, rfl, h1, h2⟩ := h
    simp only [Is] at h1
    rw [h1, IsL.of_bls h2]; rfl
def signs (x : Str) : List D := x.cps.toList.map fun c => D.str ⟨#[c]⟩
def leS (i j : Str) : Bool := !decide (j.cps.toList < i.cps.toList)
theorem bt_all : bootBuiltins "all" = some (.builtin "all") := by decide +kernel
theorem bt_any : bootBuiltins "any" = some (.builtin "any") := by decide +kernel
section
variable {X : Cx} {Γ : Ga} {tg a b c : Expr} {pos p : Pos} {x y z : Str} {bs : List Bool}
theorem i_text (h : P3 X Γ a (.str x)) (ha : x.cps.all (· < 128) = true) : I3 X Γ tg a (signs x) := PI.of (pi_str h) fun σ H R ⟨F, fh, sl, q⟩ => ⟨F, fh, sl, fun v H' F' p i => by
  refine ⟨x, isS i, ha, q _ H' F' p fun n F2 H2 e1 e2 => ⟨fun d w => ?_, fun w => ?_⟩⟩
  · unfold signs at w
    rw [List.getElem?_map] at w
    obtain ⟨c, hc, rfl⟩ := Option.map_eq_some_iff.mp w
    rw [Array.getElem?_toList] at hc
    have hi : n < x.cps.size := (Array.getElem?_eq_some_iff.mp hc).1
    refine ⟨hi, ?_⟩
    rintro v' H3 ⟨rfl, c', hc', rfl⟩
    rw [hc] at hc'
    cases hc'
    exact ⟨F2, Pur.refl e2, i_str F2⟩
  · unfold signs at w
    rw [List.length_map, Array.length_toList] at w
    exact w⟩
theorem p_chainS (ha : P3 X Γ a (.str x)) (hb : P3 X Γ b (.str y)) (hc : P3 X Γ c (.str z)) (hm : lastMarks [.LtE, .LtE] [b, c] = false := by with_unfolding_all rfl) : P3 X Γ (.Compare a [.LtE, .LtE] [b, c] pos) (.bl (leS x y && leS y z)) :=
  PE.of (pe_chain op_le_str op_le_str ha hb hc hm) fun σ H Q ⟨F, fh, sl, k⟩ => ⟨F, fh, sl, fun v1 H1 F1 p1 i1 => ⟨F1, p1.fh, sl.mono p1.ff, fun v2 H2 F2 p2 i2 => ⟨x, y, isS i1, isS i2, leS x y, rfl, by
    cases q : leS x y with
    | true =>
      rw [if_pos rfl]
      exact ⟨F2, p2.fh, sl.mono (p1.ff.trans p2.ff), fun v3 H3 F3 p3 i3 => ⟨y, z, isS i2, isS i3, k _ _ _ ((p1.trans p2).trans p3) (by rw [q]; exact i_bl F3)⟩⟩
    | false =>
      rw [if_neg Bool.false_ne_true]
      exact k _ _ _ (p1.trans p2) (by rw [q]; exact i_bl F2)⟩⟩⟩
theorem p_all (hk : X.calm = true) (hm : X.mg "all" = none) (hg : Gl X "all") (ha : P3 X Γ a (.lst (bs.map D.bl))) (he : starEach [a] X.env = (false, eval a X.env) :: starEach [] X.env := by rfl) : P3 X Γ (.Call (.Name "all" p) [a] [] pos) (.bl (bs.all id)) :=
  p_callB (call_all3 hk) hg hm bt_all (pl_cons ha pl_nil he) (fun vs H F Q fh i k => by
    obtain ⟨v, rfl, j0⟩ := isL1 i
    obtain ⟨l, xs, rfl, s1, j1⟩ := isLst j0
    cases IsL.of_bls j1
    exact ⟨l, bs, rfl, fh.seq s1, k _ _ _ (Pur.refl fh) (i_bl F)⟩) (by decide) (by decide) he
theorem p_any (hk : X.calm = true) (hm : X.mg "any" = none) (hg : Gl X "any") (ha : P3 X Γ a (.lst (bs.map D.bl))) (he : starEach [a] X.env = (false, eval a X.env) :: starEach [] X.env := by rfl) : P3 X Γ (.Call (.Name "any" p) [a] [] pos) (.bl (bs.any id)) :=
  p_callB (call_any3 hk) hg hm bt_any (pl_cons ha pl_nil he) (fun vs H F Q fh i k => by
    obtain ⟨v, rfl, j0⟩ := isL1 i
    obtain ⟨l, xs, rfl, s1, j1⟩ := isLst j0
    cases IsL.of_bls j1
    exact ⟨l, bs, rfl, fh.seq s1, k _ _ _ (Pur.refl fh) (i_bl F)⟩) (by decide) (by decide) he
end
def isHard (L : Bool) : HO → Bool
  | .lst _ => !L
  | .ins _ _ _ => true
  | .ext _ => true
  | .dK _ => true
  | _ => false
def Hard (L : Bool) (Ω : Om) : Prop := ∀ q ∈ Ω, ∀ F o, q.2 F o → isHard L o = true
theorem hard_nil {L : Bool} : Hard L [] := fun q hq => absurd hq (by simp)
theorem hard_cons {L : Bool} {a : Addr} {w : Ow} {Ω : Om} (h : ∀ F o, w F o → isHard L o = true) (t : Hard L Ω) : Hard L ((a, w) :: Ω) := fun q hq => by
  rcases List.mem_cons.mp hq with z | z
  · subst z; exact h
  · exact t q z
def Lends (K : PySem.W.Frag) (w : Ow) (d : D) : Prop := ∀ (F F' : Hp) (a : Addr) (o : HO), Same F F' → F' a = some o → w F o → Is K F' d (.ref a)
theorem lends_lst {K : PySem.W.Frag} {ds : List D} : Lends K (oLst K ds) (.lst ds) := fun F F' a o e ha ⟨xs, ho, il⟩ => by
  subst ho
  exact Is.lstI (.inl ha) (il.mono e)
def Lent (K : PySem.W.Frag) (Ω : Om) (Γ Γ' : Ga) : Prop := ∀ (i : Nat) (d : D), Γ'[i]? = some (some d) → Γ[i]? = some (some d) ∨ ∃ a w, Γ[i]? = some (some (.raw (.ref a))) ∧ (a, w) ∈ Ω ∧ Lends K w d
theorem lent_refl {K : PySem.W.Frag} {Ω : Om} {Γ : Ga} : Lent K Ω Γ Γ := fun i d h => .inl h
theorem lent_set {K : PySem.W.Frag} {Ω : Om} {Γ Γ' : Ga} {i : Nat} {a : Addr} {w : Ow} {d : D} (h : Lent K Ω Γ Γ') (hi : Γ[i]? = some (some (.raw (.ref a)))) (hm : (a, w) ∈ Ω) (hl : Lends K w d) : Lent K Ω Γ (Γ'.set i (some d)) := fun j e q => by
  rw [List.getElem?_set] at q
  by_cases hj : i = j
  · rw [if_pos hj] at q
    split at q
    · cases q
      exact .inr ⟨a, w, hj ▸ hi, hm, hl⟩
    · cases q
  · rw [if_neg hj] at q
    exact h j e q
def addF (Ω : Om) (F H : Hp) : Hp := fun b => if b ∈ Ω.map (·.1) then H b else F b
def subF (Ω : Om) (F : Hp) : Hp := fun b => if b ∈ Ω.map (·.1) then none else F b
mutual
/-- tuples (and lists, where L) of scalars, all the way down -/
def solid (L : Bool) : D → Bool
  | .non => true
  | .bl _ => true
  | .int _ => true
  | .str _ => true
  | .tup ds => solids L ds
  | .lst ds => L && solids L ds
  | _ => false
def solids (L : Bool) : List D → Bool
  | [] => true
  | d :: ds => solid L d && solids L ds
end
section
variable {L : Bool} {K : PySem.W.Frag} {B : Bs} {Γ Γ' : Ga} {Ω : Om} {F F1 : Hp} {σ : L2.St} {H H1 : Hp}
theorem Sat.notin (S : Sat K B Γ Ω F σ H) {b : Addr} {u : HO} (e : F b = some u) : b ∉ Ω.map (·.1) := fun z => by
  obtain ⟨q, hq, rfl⟩ := List.mem_map.mp z
  rw [(S.own q hq).1] at e
  cases e
theorem Sat.addSame (S : Sat K B Γ Ω F σ H) : Same F (addF Ω F H) := fun b u e => by
  unfold addF
  rw [if_neg (S.notin e)]
  exact e
theorem Sat.addSub (S : Sat K B Γ Ω F σ H) : Same (addF Ω F H) H := fun b u e => by
  unfold addF at e
  split at e
  · exact e
  · exact S.fh _ _ e
theorem Sat.lent (S : Sat K B Γ Ω F σ H) (h : Lent K Ω Γ Γ') : Sl K (addF Ω F H) Γ' σ := fun i d q => by
  rcases h i d q with z | ⟨a, w, z, m, l⟩
  · obtain ⟨v, h1, h2⟩ := S.sl i d z
    exact ⟨v, h1, h2.mono S.addSame⟩
  · obtain ⟨v, h1, h2⟩ := S.sl i _ z
    cases isR h2
    obtain ⟨fa, o, ha, ho⟩ := S.own (a, w) m
    refine ⟨_, h1, l F _ a o S.addSame ?_ (ho F (Same.refl _))⟩
    unfold addF
    rw [if_pos (List.mem_map.mpr ⟨(a, w), m, rfl⟩)]
    exact ha
theorem Sat.back (S : Sat K B Γ Ω F σ H) (p : Pur (addF Ω F H) H F1 H1) : Pur F H (subF Ω F1) H1 := by
  refine ⟨fun b u e => ?_, fun b u e => ?_, p.hh, fun b q => ?_⟩
  · unfold subF
    rw [if_neg (S.notin e)]
    exact p.ff _ _ (S.addSame _ _ e)
  · unfold subF at e
    split at e
    · cases e
    · exact p.fh _ _ e
  · unfold subF at q
    split at q
    · exact absurd rfl q
    · rename_i hn
      rcases p.new b q with z | z
      · unfold addF at z
        rw [if_neg hn] at z
        exact .inl z
      · exact .inr z
mutual
theorem is_sub (hh : ∀ b ∈ Ω.map (·.1), ∀ o, F1 b = some o → isHard L o = true) : ∀ {d : D} {v : V}, solid L d = true → Is K F1 d v → Is K (subF Ω F1) d v
  | .non, v, _, h => by simp only [Is] at h ⊢; exact h
  | .bl _, v, _, h => by simp only [Is] at h ⊢; exact h
  | .int _, v, _, h => by simp only [Is] at h ⊢; exact h
  | .str _, v, _, h => by simp only [Is] at h ⊢; exact h
  | .tup ds, v, hs, h => by
    rw [solid] at hs
    obtain ⟨a, xs, rfl, h1, h2⟩ := isT h
    refine Is.tupI ?_ (isL_sub hh hs h2)
    have keep : ∀ o, F1 a = some o → isHard L o = false → subF Ω F1 a = some o := fun o e n => by
      unfold subF
      rw [if_neg fun z => by rw [hh a z o e] at n; cases n]
      exact e
    rcases h1 with (h1 | ⟨o, h1⟩) | h1
    · exact .inl (.inl (keep _ h1 rfl))
    · exact .inl (.inr ⟨o, keep _ h1 rfl⟩)
    · exact .inr h1
  | .raw _, _, h, _ => by simp [solid] at h
  | .lst ds, v, hs, h => by
    rw [solid, Bool.and_eq_true] at hs
    obtain ⟨a, xs, rfl, h1, h2⟩ := isLstR h
    refine Is.lstI ?_ (isL_sub hh hs.2 h2)
    have keep : ∀ o, F1 a = some o → isHard L o = false → subF Ω F1 a = some o := fun o e n => by
      unfold subF
      rw [if_neg fun z => by rw [hh a z o e] at n; cases n]
      exact e
    rcases h1 with h1 | ⟨o, h1⟩
    · exact .inl (keep _ h1 (by rw [hs.1]; rfl))
    · exact .inr ⟨o, keep _ h1 rfl⟩
  | .dk _ _, _, h, _ => by simp [solid] at h
  | .dt _ _, _, h, _ => by simp [solid] at h
  | .obj _ _ _, _, h, _ => by simp [solid] at h
  | .exc _, _, h, _ => by simp [solid] at h
  | .scr _, _, h, _ => by simp [solid] at h
theorem isL_sub (hh : ∀ b ∈ Ω.map (·.1), ∀ o, F1 b = some o → isHard L o = true) : ∀ {ds : List D} {xs : List V}, solids L ds = true → IsL K F1 ds xs → IsL K (subF Ω F1) ds xs
  | [], xs, _, h => by simp only [IsL] at h ⊢; exact h
  | d :: ds, xs, hs, h => by
    rw [solids, Bool.and_eq_true] at hs
    simp only [IsL] at h ⊢
    obtain ⟨x, r, e, h1, h2⟩ := h
    exact ⟨x, r, e, is_sub hh hs.1 h1, isL_sub hh hs.2 h2⟩
end
theorem Sat.hard (S : Sat K B Γ Ω F σ H) (hd : Hard L Ω) (p : Pur (addF Ω F H) H F1 H1) : ∀ b ∈ Ω.map (·.1), ∀ o, F1 b = some o → isHard L o = true := fun b hb o e => by
  obtain ⟨q, hq, rfl⟩ := List.mem_map.mp hb
  obtain ⟨_, o', h1, h2⟩ := S.own q hq
  have e1 := p.fh _ _ e
  rw [p.hh _ _ h1] at e1
  cases e1
  exact hd q hq F _ (h2 F (Same.refl _))
end
section
variable {X : Cx} {B : Bs} {Γ Γ' : Ga} {Ω : Om} {E : E3} {rest : List Stmt} {e : Expr} {d : D} {ds : List D} {k : Bool} {R : D → Om → Prop} {RT : Bool → Om → Prop} {L : Bool}
theorem v_lend (h : P3 X Γ' e d) (hl : Lent X.K Ω Γ Γ') (hd : Hard L Ω) (hs : solid L d = true) (r : R d Ω) : V3 X B e Γ Ω R := fun F σ H S =>
  h.we ⟨addF Ω F H, S.addSub, S.lent hl, fun v H' F' p i => ⟨d, Ω, subF Ω F', S.pur (S.back p), (S.back p).ff, is_sub (S.hard hd p) hs i, r⟩⟩
theorem vt_lend (h : PT3 X Γ' e k) (hl : Lent X.K Ω Γ Γ') (r : RT k Ω) : VT3 X B e Γ Ω RT := fun F σ H S =>
  h.wt ⟨addF Ω F H, S.addSub, S.lent hl, fun H' F' p => ⟨Ω, subF Ω F', S.pur (S.back p), (S.back p).ff, r⟩⟩
end
end L3
set_option Elab.async false
set_option linter.all false
set_option maxRecDepth 100000
set_option maxHeartbeats 4000000
namespace L2
open PySem PySem.Spec PySem.Calls PyProof.Rows
def MethK (K : PySem.W.Frag) (C : Addr) (m q : Str) (st : Stmt) (ps : List Str) : Prop := ∃ f fd, Fun K m q st f fd ∧ Meth K C m f ∧ Binds K fd ps []
def OkM (P : Program) (w : World) (K : PySem.W.Frag) (mg : Str → Option Value) (base : Heap) (CX : CXT) (k : Nat) (C : Addr) (m : Str) (ps : List Str) (sp : Sp) : Prop := ∃ f fd, FnOk P w K mg base CX k f fd ps sp ∧ Meth K C m f ∧ Binds K fd ps []
def InitK (K : PySem.W.Frag) (mg : Str → Option Value) (x : Str) (C : Addr) (q : Str) (st : Stmt) (ps : List Str) : Prop := ∃ f fd, Fun K "__init__" q st f fd ∧ Mk K C f ∧ mg x = some (.ref C) ∧ Binds K fd ps []
def OkI (P : Program) (w : World) (K : PySem.W.Frag) (mg : Str → Option Value) (base : Heap) (CX : CXT) (k : Nat) (x : Str) (C : Addr) (ps : List Str) (sp : Sp) : Prop := ∃ f fd, FnOk P w K mg base CX k f fd ps sp ∧ Mk K C f ∧ mg x = some (.ref C) ∧ Binds K fd ps []
theorem meth_mk {K : PySem.W.Frag} {C : Addr} {m q : Str} {st : Stmt} (ps : List Str) {f : Addr} {oc : Value} {od an : Option Addr} {osl : Array (Option Value)} {kV doc pm cdv ct : Value}
    (a : PySem.W.findIn K (.ref C) m = some (some (.ref f))) (i : PySem.W.isFn K (.ref f) = true) (l : K.lookup f = some ⟨oc, od, .func (PySem.W.fnOf m q (defArgs st) (defBody st) (defScope st) .none kV doc pm an cdv ct), osl⟩)
    (c : PySem.W.codeIn K cdv q = true) (k : PySem.W.keepIn K (.ref f) = true)
    (hb : ∀ (kV doc pm : Value) (an : Option Addr) (cdv ct : Value) (us : List Value), us.length = ps.length → bindArgs (PySem.W.fnOf m q (defArgs st) (defBody st) (defScope st) .none kV doc pm an cdv ct) ⟨us, []⟩ = pure (ps.zip us)) : MethK K C m q st ps :=
  have F := fun_mk (st := st) l c k
  ⟨f, _, F, ⟨a, i, k⟩, F.binds hb⟩
theorem init_mk {K : PySem.W.Frag} {h : Heap} {mg : Str → Option Value} (X : K.In h) (G : h.Ns mainGlobals mg) {x : Str} {C : Addr} {q : Str} {st : Stmt} (ps : List Str) {f : Addr} {oc : Value} {od an : Option Addr} {osl : Array (Option Value)} {kV doc pm cdv ct : Value}
    (g : PySem.W.nsIn K mainGlobals x = some (some (.ref C))) (a : PySem.W.findIn K (.ref C) "__init__" = some (some (.ref f))) (mk : PySem.W.makesIn K C = true) (i : PySem.W.isFn K (.ref f) = true) (kc : PySem.W.keepIn K (.ref C) = true)
    (l : K.lookup f = some ⟨oc, od, .func (PySem.W.fnOf "__init__" q (defArgs st) (defBody st) (defScope st) .none kV doc pm an cdv ct), osl⟩)
    (c : PySem.W.codeIn K cdv q = true) (k : PySem.W.keepIn K (.ref f) = true)
    (hb : ∀ (kV doc pm : Value) (an : Option Addr) (cdv ct : Value) (us : List Value), us.length = ps.length → bindArgs (PySem.W.fnOf "__init__" q (defArgs st) (defBody st) (defScope st) .none kV doc pm an cdv ct) ⟨us, []⟩ = pure (ps.zip us)) : InitK K mg x C q st ps :=
  have F := fun_mk (st := st) l c k
  ⟨f, _, F, ⟨mk, a, i, kc⟩, PySem.W.mg_of X G g, F.binds hb⟩
section
variable {P : Program} {w : World} {K : PySem.W.Frag} {mg : Str → Option Value} {base : Heap} {C : Addr} {m q x : Str} {st : Stmt} {N ps : List Str} {k : Nat} {sp : Sp}
theorem MethK.ok (d : MethK K C m q st ps) (S : FnScope N ps (defScope st)) (len : ∀ vs H Q E, sp vs H Q E → vs.length = ps.length)
    (hbody : ∀ (f : Addr) (cdv : Value) (A : Around) (outer : List Env) (s : Shared) (H : Hp) (vs : List V) (Q : VK) (E : XK), Room k (A.deeper (envOfC q (defScope st) s.heap.objs.size f cdv)) → sp vs H Q E →
      ∃ t, PSs (cxOf CX0 P w K mg base N q (defScope st) f cdv A outer s H E).nox (defBody st) t ∧ t { nx := fun _ H' => Q .non H', rt := Q } (start N vs) H) : OkM P w K mg base CX0 (k + 1) C m ps sp := by
  obtain ⟨f, fd, F, hm, b⟩ := d
  exact ⟨f, fd, F.ok S len fun cdv A outer s H vs Q E hr h => hbody f cdv A outer s H vs Q E hr h, hm, b⟩
theorem InitK.ok (d : InitK K mg x C q st ps) (S : FnScope N ps (defScope st)) (len : ∀ vs H Q E, sp vs H Q E → vs.length = ps.length)
    (hbody : ∀ (f : Addr) (cdv : Value) (A : Around) (outer : List Env) (s : Shared) (H : Hp) (vs : List V) (Q : VK) (E : XK), Room k (A.deeper (envOfC q (defScope st) s.heap.objs.size f cdv)) → sp vs H Q E →
      ∃ t, PSs (cxOf CX0 P w K mg base N q (defScope st) f cdv A outer s H E).nox (defBody st) t ∧ t { nx := fun _ H' => Q .non H', rt := Q } (start N vs) H) : OkI P w K mg base CX0 (k + 1) x C ps sp := by
  obtain ⟨f, fd, F, hm, g, b⟩ := d
  exact ⟨f, fd, F.ok S len fun cdv A outer s H vs Q E hr h => hbody f cdv A outer s H vs Q E hr h, hm, g, b⟩
end
theorem putF_new {f : Str} {v : V} : ∀ {fs : List (Str × V)}, (∀ p ∈ fs, p.1 ≠ f) → putF f v fs = fs ++ [(f, v)]
  | [], _ => rfl
  | (g, x) :: r, h => by
    rw [putF, if_neg (h (g, x) (by simp)), putF_new fun p hp => h p (List.mem_cons_of_mem _ hp)]
    rfl
end L2
namespace L3
open PySem PySem.Spec PySem.Calls PyProof.Rows L2
def oIns (K : PySem.W.Frag) (C : Addr) (fs : List Str) (ds : List D) : Ow := fun F o => ∃ dx xs, o = .ins C dx (fs.zip xs) ∧ fs.length = xs.length ∧ IsL K F ds xs
theorem hard_ins {K : PySem.W.Frag} {C : Addr} {fs : List Str} {ds : List D} {L : Bool} : ∀ F o, oIns K C fs ds F o → isHard L o = true := fun F o ⟨dx, xs, e, _⟩ => by subst e; rfl
theorem lends_ins {K : PySem.W.Frag} {C : Addr} {fs : List Str} {ds : List D} : Lends K (oIns K C fs ds) (.obj C fs ds) := fun F F' a o e ha ⟨dx, xs, ho, hl, il⟩ => by
  subst ho
  simp only [Is]
  exact ⟨a, dx, xs, rfl, ha, hl, il.mono e⟩
theorem isO {K : PySem.W.Frag} {F : Hp} {C : Addr} {fs : List Str} {ds : List D} {v : V} (h : Is K F (.obj C fs ds) v) : ∃ a dx xs, v = .ref a ∧ F a = some (.ins C dx (fs.zip xs)) ∧ fs.length = xs.length ∧ IsL K F ds xs := by simpa only [Is] using h
theorem fld_is {K : PySem.W.Frag} {F : Hp} {f : Str} {d : D} : ∀ {fs : List Str} {ds : List D} {xs : List V}, IsL K F ds xs → (fs.zip ds).lookup f = some d → ∃ x, (fs.zip xs).lookup f = some x ∧ Is K F d x
  | [], _, _, _, h => by simp at h
  | g :: fs, [], _, _, h => by simp at h
  | g :: fs, e :: ds, xs, il, h => by
    simp only [IsL] at il
    obtain ⟨x, r, rfl, i1, i2⟩ := il
    rw [List.zip_cons_cons, List.lookup_cons] at h ⊢
    cases q : f == g with
    | true => rw [q] at h; cases h; exact ⟨x, rfl, i1⟩
    | false => rw [q] at h; exact fld_is i2 h
theorem fld_none {f : Str} : ∀ {fs : List Str} {xs : List V}, f ∉ fs → (fs.zip xs).lookup f = none
  | [], _, _ => by simp
  | g :: fs, [], _ => by simp
  | g :: fs, x :: xs, h => by
    rw [List.zip_cons_cons, List.lookup_cons]
    have hg : f ≠ g := fun z => h (by simp [z])
    rw [show (f == g) = false from beq_eq_false_iff_ne.mpr hg]
    exact fld_none fun z => h (List.mem_cons_of_mem _ z)
theorem zip_snoc {f : Str} {x : V} : ∀ {fs : List Str} {xs : List V}, fs.length = xs.length → fs.zip xs ++ [(f, x)] = (fs ++ [f]).zip (xs ++ [x])
  | [], [], _ => rfl
  | g :: fs, y :: xs, h => by
    rw [List.zip_cons_cons, List.cons_append, List.cons_append, List.cons_append, List.zip_cons_cons, zip_snoc (by simpa using h)]
section
variable {X : Cx} {B : Bs} {Γ : Ga} {Ω : Om} {E : E3} {rest : List Stmt} {e o : Expr} {es : List Expr} {d : D} {ds : List D} {C : Addr} {fs : List Str} {f : Str} {pos pos' p apos : Pos} {R : D → Om → Prop}
theorem p_fld (he : P3 X Γ e (.obj C fs ds)) (c : Cls X.K C) (n : NoAttr X.K C f) (l : (fs.zip ds).lookup f = some d) (hb : attributeBase e f X.env (eval e X.env) = eval e X.env := by rfl) : P3 X Γ (.Attribute e f pos) d :=
  PE.of (pe_fld he hb) fun σ H Q ⟨F, fh, sl, k⟩ => ⟨F, fh, sl, fun v H' F' p i => by
    obtain ⟨a, dx, xs, rfl, ha, hl, il⟩ := isO i
    obtain ⟨x, h1, h2⟩ := fld_is il l
    exact ⟨a, C, dx, _, x, rfl, p.fh _ _ ha, c, n, h1, k _ _ _ p h2⟩⟩
theorem w_setF {a : Addr} (ho : P3 X Γ o (.raw (.ref a))) (c : Cls X.K C) (n : NoAttr X.K C f)
    (h : V3 X B e Γ Ω fun d Ω1 => ∃ fs ds Ω2, Ω1.Perm ((a, oIns X.K C fs ds) :: Ω2) ∧ f ∉ fs ∧ fs.length < 1000 ∧ W3 X B rest Γ ((a, oIns X.K C (fs ++ [f]) (ds ++ [d])) :: Ω2) E)
    (hs : swapsWith e (some (.Attribute o f pos')) pos.line X.env = pure false := by rfl) : W3 X B (.Assign [.Attribute o f pos'] e pos :: rest) Γ Ω E := fun F σ H S pins s I =>
  pss_cons (ps_fld ho pe_w hs) pss_w pins s σ H _ I ((h F σ H S).mono fun v H1 ⟨d, Ω1, F1, S1, f1, i1, fs, ds, Ω2, pm, hf, hz, h1⟩ => ⟨F1, S1.fh, S1.sl, fun y H2 F2 p2 i2 => by
    cases isR i2
    have S2 := (S1.pur p2).perm pm.symm
    obtain ⟨fa, o', ha, ho'⟩ := S2.own (a, oIns X.K C fs ds) (by simp)
    obtain ⟨dx, xs, rfl, hl, il⟩ := ho' F2 (Same.refl _)
    refine ⟨a, C, dx, _, rfl, ha, c, n, by rw [List.length_zip, ← hl]; omega, ?_⟩
    rw [putF_new (f := f) (v := v) (fs := fs.zip xs) (fun q hq z => hf (by rw [← z]; exact (List.of_mem_zip hq).1)), zip_snoc hl]
    exact to_mono (f1.trans p2.ff) (h1 F2 σ _ (S2.turn fun F3 e3 => ⟨dx, xs ++ [v], rfl, by rw [List.length_append, List.length_append, hl]; rfl, (il.mono e3).append (IsL.cons (i1.mono (p2.ff.trans e3)) IsL.nil)⟩))⟩)
end
def spF (K : PySem.W.Frag) (n : Nat) (C : List D → List D → Prop) : Sp := fun vs H Q _ => ∃ ds gs F, C ds gs ∧ ds.length = n ∧ Same F H ∧ IsL K F ds vs ∧ ∀ p xs H' F', Pur F H F' H' → H p = none → F' p = none → H' p = some (.lst xs) → IsL K F' gs xs → Q (.ref p) H'
def spI (K : PySem.W.Frag) (n : Nat) (Cc : Addr) (C : List D → List Str × List D → Prop) : Sp := fun vs H Q _ => ∃ (a : Addr) (us : List V) (ds : List D) (r : List Str × List D) (F : Hp) (dx : Addr), vs = .ref a :: us ∧ ds.length + 1 = n ∧ Same F H ∧ F a = none ∧ H a = some (.ins Cc dx []) ∧ IsL K F ds us ∧ C ds r ∧
  ∀ (H' F' : Hp) (dx' : Addr) (xs : List V), Same F F' → Same F' H' → (∀ b o, b ≠ a → H b = some o → H' b = some o) → (∀ b, F' b ≠ none → F b ≠ none ∨ H b = none) → F' a = none → H' a = some (.ins Cc dx' (r.1.zip xs)) → r.1.length = xs.length → IsL K F' r.2 xs → Q .non H'
theorem spF.len {K : PySem.W.Frag} {n : Nat} {C : List D → List D → Prop} {vs : List V} {H : Hp} {Q : VK} {E : XK} (h : spF K n C vs H Q E) : vs.length = n := by
  obtain ⟨ds, d, F, _, l, _, i, _⟩ := h
  rw [i.len, l]
theorem spI.len {K : PySem.W.Frag} {n : Nat} {Cc : Addr} {C : List D → List Str × List D → Prop} {vs : List V} {H : Hp} {Q : VK} {E : XK} (h : spI K n Cc C vs H Q E) : vs.length = n := by
  obtain ⟨a, us, ds, r, F, dx, rfl, l, _, _, _, i, _⟩ := h
  rw [List.length_cons, i.len, l]
section
variable {X : Cx} {sts : List Stmt} {N : List Str} {n : Nat} {vs : List V} {H : Hp} {Q : VK} {E : XK}
theorem reads_fresh {C : List D → List D → Prop} (h : spF X.K n C vs H Q E)
    (body : ∀ (ds gs : List D), C ds gs → ∀ B : Bs, B.M = [] → W3 X B sts (startG N ds) [] ⟨fun _ _ => False, fun r Ω => ∃ p, r = .raw (.ref p) ∧ Ω = [(p, oLst X.K gs)], fun _ _ => False, fun _ _ => False⟩) : ∃ t, PSs X sts t ∧ t { nx := fun _ H' => Q .non H', rt := Q } (L2.start N vs) H := by
  refine ⟨_, pss_w, ?_⟩
  obtain ⟨ds, gs, F, hC, hl, fh, il, q⟩ := h
  refine ends_mono (D := E3.to X.K ⟨[], F, H⟩ F ⟨fun _ _ => False, fun r Ω => ∃ p, r = .raw (.ref p) ∧ Ω = [(p, oLst X.K gs)], fun _ _ => False, fun _ _ => False⟩) (D' := { nx := fun _ H' => Q .non H', rt := Q }) ?_ ?_ ?_ ?_ (body ds gs hC ⟨[], F, H⟩ rfl F (L2.start N vs) H (Sat.entry fh il))
  · rintro σ' H' ⟨_, _, _, _, _, z⟩
    exact z.elim
  · rintro v H' ⟨d', Ω', F', ⟨σ', S'⟩, f', i', p, rfl, rfl⟩
    cases isR i'
    obtain ⟨fa, o, ha, ho⟩ := S'.own (p, oLst X.K gs) (by simp)
    obtain ⟨xs, rfl, il'⟩ := ho F' (Same.refl _)
    refine q p xs H' F' (S'.toPur rfl) ?_ fa ha il'
    rcases S'.od (p, oLst X.K gs) (by simp) with z | z
    · cases z
    · exact z
  · rintro σ' H' ⟨_, _, _, _, _, z⟩
    exact z.elim
  · rintro σ' H' ⟨_, _, _, _, _, z⟩
    exact z.elim
theorem reads_init {Cc : Addr} {C : List D → List Str × List D → Prop} (h : spI X.K n Cc C vs H Q E)
    (body : ∀ (a : Addr) (ds : List D) (r : List Str × List D), C ds r → ∀ B : Bs, B.M = [a] → W3 X B sts (startG N (.raw (.ref a) :: ds)) [(a, oIns X.K Cc [] [])] ⟨fun _ Ω => Ω = [(a, oIns X.K Cc r.1 r.2)], fun _ _ => False, fun _ _ => False, fun _ _ => False⟩) : ∃ t, PSs X sts t ∧ t { nx := fun _ H' => Q .non H', rt := Q } (L2.start N vs) H := by
  refine ⟨_, pss_w, ?_⟩
  obtain ⟨a, us, ds, r, F, dx, rfl, hl, fh, fa, ha, il, hC, q⟩ := h
  have il' : IsL X.K F (.raw (.ref a) :: ds) (.ref a :: us) := IsL.cons (i_raw F) il
  have S0 : Sat X.K ⟨[a], F, H⟩ (startG N (.raw (.ref a) :: ds)) [(a, oIns X.K Cc [] [])] F (L2.start N (.ref a :: us)) H := by
    refine ⟨Same.refl _, fh, fun _ q => .inl q, fun _ _ _ e => e, by simp, fun p hp => ?_, fun p hp => ?_, Sl.start il'⟩
    · rw [List.mem_singleton.mp hp]; exact .inl (by simp)
    · rw [List.mem_singleton.mp hp]; exact ⟨fa, _, ha, fun _ _ => ⟨dx, [], rfl, rfl, IsL.nil⟩⟩
  refine ends_mono (D := E3.to X.K ⟨[a], F, H⟩ F ⟨fun _ Ω => Ω = [(a, oIns X.K Cc r.1 r.2)], fun _ _ => False, fun _ _ => False, fun _ _ => False⟩) (D' := { nx := fun _ H' => Q .non H', rt := Q }) ?_ ?_ ?_ ?_ (body a ds r hC ⟨[a], F, H⟩ rfl F _ H S0)
  · rintro σ' H' ⟨Γ', Ω', F', S', f', rfl⟩
    obtain ⟨fa', o, ha', ho⟩ := S'.own (a, oIns X.K Cc r.1 r.2) (by simp)
    obtain ⟨dx', xs, rfl, hl', il2⟩ := ho F' (Same.refl _)
    refine q H' F' dx' xs S'.f0 S'.fh (fun b o hb e => S'.kp b o (by simpa using hb) e) (fun b hb => ?_) fa' ha' hl' il2
    rcases S'.fr b hb with z | z | z
    · exact .inl z
    · exact .inr z
    · have e : b = a := by simpa using z
      subst e
      exact absurd fa' hb
  · rintro v H' ⟨_, _, _, _, _, _, z⟩
    exact z.elim
  · rintro σ' H' ⟨_, _, _, _, _, z⟩
    exact z.elim
  · rintro σ' H' ⟨_, _, _, _, _, z⟩
    exact z.elim
end
section
variable {P : Program} {w : World} {K : PySem.W.Frag} {mg : Str → Option Value} {base : Heap} {x m q : Str} {st : Stmt} {N ps : List Str} {k n : Nat} {Cc : Addr}
theorem om_fresh {C : List D → List D → Prop} (d : MethK K Cc m q st ps) (S : FnScope N ps (defScope st)) (hn : ps.length = n)
    (body : ∀ (f : Addr) (cdv : Value) (A : Around) (outer : List Env) (s : Shared) (H : Hp) (E : XK), Room k (A.deeper (envOfC q (defScope st) s.heap.objs.size f cdv)) → ∀ (ds gs : List D), C ds gs → ∀ B : Bs, B.M = [] →
      W3 (cx0 P w K mg base N q st f cdv A outer s H E) B (defBody st) (startG N ds) [] ⟨fun _ _ => False, fun r Ω => ∃ p, r = .raw (.ref p) ∧ Ω = [(p, oLst K gs)], fun _ _ => False, fun _ _ => False⟩) : OkM P w K mg base CX0 (k + 1) Cc m ps (spF K n C) :=
  d.ok S (fun vs H Q E h => (spF.len h).trans hn.symm) fun f cdv A outer s H vs Q E hr h => reads_fresh (X := cx0 P w K mg base N q st f cdv A outer s H E) h (body f cdv A outer s H E hr)
theorem ok_fresh {C : List D → List D → Prop} (d : DefK K mg x st ps) (S : FnScope N ps (defScope st)) (hn : ps.length = n)
    (body : ∀ (f : Addr) (cdv : Value) (A : Around) (outer : List Env) (s : Shared) (H : Hp) (E : XK), Room k (A.deeper (envOfC x (defScope st) s.heap.objs.size f cdv)) → ∀ (ds gs : List D), C ds gs → ∀ B : Bs, B.M = [] →
      W3 (cx0 P w K mg base N x st f cdv A outer s H E) B (defBody st) (startG N ds) [] ⟨fun _ _ => False, fun r Ω => ∃ p, r = .raw (.ref p) ∧ Ω = [(p, oLst K gs)], fun _ _ => False, fun _ _ => False⟩) : OkF P w K mg base CX0 (k + 1) x ps (spF K n C) :=
  d.ok S (fun vs H Q E h => (spF.len h).trans hn.symm) fun f cdv A outer s H vs Q E hr h => reads_fresh (X := cx0 P w K mg base N x st f cdv A outer s H E) h (body f cdv A outer s H E hr)
theorem oi_init {C : List D → List Str × List D → Prop} (d : InitK K mg x Cc q st ps) (S : FnScope N ps (defScope st)) (hn : ps.length = n)
    (body : ∀ (f : Addr) (cdv : Value) (A : Around) (outer : List Env) (s : Shared) (H : Hp) (E : XK), Room k (A.deeper (envOfC q (defScope st) s.heap.objs.size f cdv)) → ∀ (a : Addr) (ds : List D) (r : List Str × List D), C ds r → ∀ B : Bs, B.M = [a] →
      W3 (cx0 P w K mg base N q st f cdv A outer s H E) B (defBody st) (startG N (.raw (.ref a) :: ds)) [(a, oIns K Cc [] [])] ⟨fun _ Ω => Ω = [(a, oIns K Cc r.1 r.2)], fun _ _ => False, fun _ _ => False, fun _ _ => False⟩) : OkI P w K mg base CX0 (k + 1) x Cc ps (spI K n Cc C) :=
  d.ok S (fun vs H Q E h => (spI.len h).trans hn.symm) fun f cdv A outer s H vs Q E hr h => reads_init (X := cx0 P w K mg base N q st f cdv A outer s H E) h (body f cdv A outer s H E hr)
end
section
variable {X : Cx} {Γ : Ga} {d : D} {ds gs : List D} {n k : Nat} {Cc : Addr} {fs : List Str} {x m : Str} {ps : List Str} {e o : Expr} {es : List Expr} {p pos apos : Pos}
theorem frozen_pur {F H F' H' : Hp} {p : Addr} {u : HO} (pu : Pur F H F' H') (hp : H p = none) (fp : F' p = none) (e : H' p = some u) : Pur F H (upd F' p u) H' ∧ Same F' (upd F' p u) := by
  have w : Same F' (upd F' p u) := fun b y q => by rw [upd_ne (ne_of_none q fp)]; exact q
  refine ⟨⟨pu.ff.trans w, fun b y q => ?_, pu.hh, fun b q => ?_⟩, w⟩
  · by_cases hb : b = p
    · subst hb; rw [upd_same] at q; cases q; exact e
    · rw [upd_ne hb] at q; exact pu.fh _ _ q
  · by_cases hb : b = p
    · subst hb; exact .inr hp
    · rw [upd_ne hb] at q; exact pu.new b q
theorem pf_call {C : List D → List D → Prop} (ok : OkF X.prog X.w X.K X.mg X.base CX0 k x ps (spF X.K n C)) (hr : Room k X.A) (hg : Gl X x) (ha : PL3 X Γ (e :: es) ds) (hC : C ds gs) (hn : ds.length = n := by rfl) (hdb : (x == ("__debug__" : Str)) = false := by decide)
    (he : starEach (e :: es) X.env = (false, eval e X.env) :: starEach es X.env := by rfl) (hpl : (backTo pos (starEach es X.env)).any (·.1) = false := by rfl) : PF3 X Γ (.Call (.Name x p) (e :: es) [] pos) gs :=
  PE.of (pe_fn ok hr hg ha hdb he hpl) fun σ H Q ⟨F, fh, sl, q⟩ => ⟨F, fh, sl, fun vs H' F' pu i => by
    dsimp only
    rw [List.append_nil]
    exact ⟨ds, gs, F', hC, hn, pu.fh, i, fun b xs H2 F2 p2 hb fb e2 il => q b xs H2 F2 (pu.trans p2) (pu.hh.free hb) fb e2 il⟩⟩
theorem pf_meth0 {C : List D → List D → Prop} {pl : Sem Bool} (ok : OkM X.prog X.w X.K X.mg X.base CX0 k Cc m ps (spF X.K 1 C)) (c : Cls X.K Cc) (hr : Room k X.A) (ho : P3 X Γ o (.obj Cc fs gs)) (hm : m ∉ fs) (hC : C [.obj Cc fs gs] ds)
    (ht : eval (.Call (.Attribute o m apos) [] [] pos) X.env = (do
      let ov ← eval o X.env
      standAt apos.atName
      let (f, first) ← holding [ov] (getMethod ov m pl)
      callWith pos f first (backTo pos (starEach [] X.env)) (backToKw pos (keywordEach [] X.env))) := by rfl) : PF3 X Γ (.Call (.Attribute o m apos) [] [] pos) ds := by
  obtain ⟨f, fd, F, hM, hb⟩ := ok
  exact PE.of (pe_meth0 (pl := pl) ho c hM F hr hb .nil pass0 ht) fun σ H Q ⟨F0, fh, sl, q⟩ => ⟨F0, fh, sl, fun v H1 F1 p1 i1 => by
    obtain ⟨a, dx, xs, rfl, h1, hl, il⟩ := isO i1
    refine ⟨a, dx, _, rfl, p1.fh _ _ h1, fld_none hm, ?_⟩
    exact ⟨_, ds, F1, hC, rfl, p1.fh, IsL.cons i1 IsL.nil, fun b xs H2 F2 p2 hb fb e2 il2 => q b xs H2 F2 (p1.trans p2) (p1.hh.free hb) fb e2 il2⟩⟩
theorem p_make {C : List D → List Str × List D → Prop} {r : List Str × List D} (ok : OkI X.prog X.w X.K X.mg X.base CX0 k x Cc ps (spI X.K n Cc C)) (hr : Room (k + 1) X.A) (hg : Gl X x) (ha : PL3 X Γ (e :: es) ds) (hC : C ds r) (hn : ds.length + 1 = n := by rfl) (hdb : (x == ("__debug__" : Str)) = false := by decide)
    (he : starEach (e :: es) X.env = (false, eval e X.env) :: starEach es X.env := by rfl) (hpl : (backTo pos (starEach es X.env)).any (·.1) = false := by rfl) : P3 X Γ (.Call (.Name x p) (e :: es) [] pos) (.obj Cc r.1 r.2) := by
  obtain ⟨f, fd, F, M, hm, hb⟩ := ok
  exact PE.of (pe_make M F hr hg hm hb .nil pass0 ha hdb he hpl) fun σ H Q ⟨F0, fh, sl, q⟩ => ⟨F0, fh, sl, fun vs H1 F1 p1 i1 a dx ha' hdx hne => by
    rw [List.append_nil]
    have f1 : F1 a = none := p1.fh.free ha'
    have sm : Same H1 (upd (upd H1 dx (.own a)) a (.ins Cc dx [])) := fun b u e1 => by
      rw [upd_ne (ne_of_none e1 ha'), upd_ne (ne_of_none e1 hdx)]
      exact e1
    refine ⟨a, vs, ds, r, F1, dx, rfl, hn, p1.fh.trans sm, f1, upd_same, i1, hC, fun H' F' dx' xs g1 g2 g3 g4 g5 g6 g7 g8 => ⟨rfl, ?_⟩⟩
    have pu : Pur F1 H1 F' H' := by
      refine ⟨g1, g2, fun b u e1 => g3 b u (ne_of_none e1 ha') (sm b u e1), fun b e1 => ?_⟩
      rcases g4 b e1 with z | z
      · exact .inl z
      · exact .inr (sm.free z)
    obtain ⟨pf, w⟩ := frozen_pur pu ha' g5 g6
    refine q _ _ _ (p1.trans pf) ?_
    simp only [Is]
    exact ⟨a, dx', xs, rfl, upd_same, g7, g8.mono w⟩⟩
end
end L3
set_option Elab.async false
set_option linter.all false
set_option maxRecDepth 100000
set_option maxHeartbeats 4000000
namespace L2
open PySem PySem.Spec PySem.Calls PyProof.Rows
abbrev K2 := Sum Key (List Key)
theorem kV_is {P : Program} {w : World} {k : Key} {u : Value} (r : RelV (kV k) u) : (mixKind P w).is k u = true := by
  cases k with
  | inl i => obtain ⟨t, q⟩ := (show ∃ t, u = Value.int i t from r); subst q; exact beq_self_eq_true i
  | inr x => obtain ⟨t, q⟩ := (show ∃ t, u = Value.str x t from r); subst q; exact beq_self_eq_true x
theorem items_are {P : Program} {w : World} : ∀ {ks : List Key} {us : List Value}, Vals (ks.map kV) us → ItemsAre (mixKind P w) ks us
  | [], _, h => by cases h; exact .nil
  | k :: ks, _, h => by
    cases h with
    | cons r t => exact .cons (kV_is r) (items_are t)
def TupOf (h : Heap) (ks : List Key) (a : Addr) : Prop := ∃ us : List Value, h.IsTuple a us.toArray ∧ Vals (ks.map kV) us
def ItOf (h : Heap) : K2 → Value → Prop
  | .inl k, v => RelV (kV k) v
  | .inr ks, v => ∃ a, v = .ref a ∧ TupOf h ks a
def Tup2 (h : Heap) (ks : List K2) (a : Addr) : Prop := ∃ us : List Value, h.IsTuple a us.toArray ∧ Paired (ItOf h) ks us
theorem TupOf.key {P : Program} {w : World} {h : Heap} {ks : List Key} {a : Addr} (x : TupOf h ks a) : IsTupleKey (mixKind P w) h ks a := by
  obtain ⟨us, ⟨o, e1, c1, n, d1⟩, r⟩ := x
  exact ⟨o, us.toArray, n, e1, c1, d1, by simpa using items_are r⟩
theorem IsTuple.one {h : Heap} {a : Addr} {us vs : List Value} (x : h.IsTuple a us.toArray) (y : h.IsTuple a vs.toArray) : us = vs := by
  obtain ⟨o, e1, c1, n, d1⟩ := x
  obtain ⟨o', e2, c2, n', d2⟩ := y
  rw [e1] at e2
  cases e2
  rw [d1] at d2
  injection d2 with z _
  injection z
theorem kV_inj {k k' : Key} {v : Value} (x : RelV (kV k) v) (y : RelV (kV k') v) : k = k' := by
  cases k <;> cases k' <;> obtain ⟨t1, e1⟩ := x <;> obtain ⟨t2, e2⟩ := y <;> rw [e1] at e2 <;> cases e2 <;> rfl
theorem Vals.keys_inj : ∀ {x y : List Key} {us : List Value}, Vals (x.map kV) us → Vals (y.map kV) us → x = y
  | [], [], _, _, _ => rfl
  | [], _ :: _, _, h1, h2 => by cases h1; cases h2
  | _ :: _, [], _, h1, h2 => by cases h2; cases h1
  | k :: ks, k' :: ks', _, h1, h2 => by
    cases h1 with
    | cons r1 t1 =>
      cases h2 with
      | cons r2 t2 => rw [kV_inj r1 r2, Vals.keys_inj t1 t2]
theorem TupOf.inj {h : Heap} {a : Addr} {x y : List Key} (p : TupOf h x a) (q : TupOf h y a) : x = y := by
  obtain ⟨us, t1, r1⟩ := p
  obtain ⟨vs, t2, r2⟩ := q
  cases IsTuple.one t1 t2
  exact r1.keys_inj r2
theorem ItOf.inj {h : Heap} {x y : K2} {v : Value} (p : ItOf h x v) (q : ItOf h y v) : x = y := by
  cases x with
  | inl k =>
    cases y with
    | inl k' => rw [kV_inj p q]
    | inr ks =>
      obtain ⟨a, rfl, _⟩ := q
      cases k <;> (obtain ⟨t, z⟩ := p; cases z)
  | inr ks =>
    cases y with
    | inl k =>
      obtain ⟨a, rfl, _⟩ := p
      cases k <;> (obtain ⟨t, z⟩ := q; cases z)
    | inr ks' =>
      obtain ⟨a, rfl, t1⟩ := p
      obtain ⟨b, z, t2⟩ := q
      cases z
      rw [t1.inj t2]
theorem Its2.inj {h : Heap} : ∀ {x y : List K2} {us : List Value}, Paired (ItOf h) x us → Paired (ItOf h) y us → x = y
  | [], [], _, _, _ => rfl
  | [], _ :: _, _, h1, h2 => by cases h1; cases h2
  | _ :: _, [], _, h1, h2 => by cases h2; cases h1
  | k :: ks, k' :: ks', _, h1, h2 => by
    cases h1 with
    | cons r1 t1 =>
      cases h2 with
      | cons r2 t2 => rw [ItOf.inj r1 r2, Its2.inj t1 t2]
theorem Tup2.inj {h : Heap} {a : Addr} {x y : List K2} (p : Tup2 h x a) (q : Tup2 h y a) : x = y := by
  obtain ⟨us, t1, r1⟩ := p
  obtain ⟨vs, t2, r2⟩ := q
  cases IsTuple.one t1 t2
  exact Its2.inj r1 r2
theorem tup_keeps {h h' : Heap} {a d : Addr} {us : Array Value} {o : Obj} {es ep} (x : h.IsTuple a us) (e : h.get? d = some o) (hd : o.data = .dict es ep) (sb : Heap.SameBut d h h') : h'.IsTuple a us := by
  obtain ⟨o', e1, c1, n, d1⟩ := x
  have ne : a ≠ d := fun z => by
    subst z
    rw [e] at e1
    cases e1
    rw [hd] at d1
    cases d1
  exact ⟨o', (sb.2 a ne).trans e1, c1, n, d1⟩
theorem TupOf.keeps {h h' : Heap} {ks : List Key} {a d : Addr} {o : Obj} {es ep} (x : TupOf h ks a) (e : h.get? d = some o) (hd : o.data = .dict es ep) (sb : Heap.SameBut d h h') : TupOf h' ks a := by
  obtain ⟨us, t1, r1⟩ := x
  exact ⟨us, tup_keeps t1 e hd sb, r1⟩
theorem Tup2.keeps {h h' : Heap} {ks : List K2} {a d : Addr} {o : Obj} {es ep} (x : Tup2 h ks a) (e : h.get? d = some o) (hd : o.data = .dict es ep) (sb : Heap.SameBut d h h') : Tup2 h' ks a := by
  obtain ⟨us, t1, r1⟩ := x
  refine ⟨us, tup_keeps t1 e hd sb, Paired.mapP r1 fun k v q => ?_⟩
  cases k with
  | inl k => exact q
  | inr ks =>
    obtain ⟨b, e1, t2⟩ := q
    exact ⟨b, e1, t2.keeps e hd sb⟩
section
variable {P : Program} {w : World} {A : Around} {E : Value → Shared → Prop} {s : Shared}
def h2 (P : Program) (w : World) : K2 → Int
  | .inl k => (mixKind P w).hash k
  | .inr ks => tupleKeyHash (mixKind P w) ks
def n2 : K2 → Nat
  | .inl _ => 1
  | .inr ks => ks.length + 1
def hash2 (P : Program) (w : World) (ks : List K2) : Int := reduceHash (Builtin.Tuple.tupleHashOf (ks.map (h2 P w)))
def draws2 (ks : List K2) : Nat := (ks.map n2).sum + 1
theorem hash_it {k : K2} {v : Value} {Q : Int → Shared → Prop} (hu : A.units < cLine) (x : ItOf s.heap k v) (q : Q (h2 P w k) { s with toks := s.toks + n2 k }) : wpAny (model P w) A (pyHash v) Q E s := by
  cases k with
  | inl k => exact (mixKind P w).pyHash (kV_is x) q
  | inr ks =>
    obtain ⟨a, rfl, t⟩ := x
    exact wpAny_pyHash_tuple hu (t.key (P := P) (w := w)) q
theorem hash_2 {ks : List K2} {a : Addr} {Q : Int → Shared → Prop} (hu : A.units + 1 < cLine) (x : Tup2 s.heap ks a) (q : Q (hash2 P w ks) { s with toks := s.toks + draws2 ks }) : wpAny (model P w) A (pyHash (.ref a)) Q E s := by
  obtain ⟨us, ⟨o, ho, hc, n, hd⟩, hi⟩ := x
  have hT : s.TypeIs (.ref a) "tuple" := ⟨o, ho, hc⟩
  have hu0 : A.units < cLine := by omega
  unfold pyHash
  first | unfold pyHashByItsType | skip
  first | refine wpAny_bind (wpAny_cRoomFor_or (.inr hu0) ?_) | skip
  refine wpAny_bind (wpAny_specialOf hT F.slot_tuple_hash.lookup ?_)
  show wpAny _ _ (if (some (Value.builtin "tuple.__hash__") == some Value.none) = true then _ else _) Q E s
  refine wpAny_ite_split (fun z => absurd z (by rw [beq_builtin_none]; exact Bool.false_ne_true)) fun _ => ?_
  refine wpAny_bind (wpAny_specialOf hT F.slot_tuple_hash.lookup ?_)
  show wpAny _ _ (callSpecialIfBoundUnlessNone? (.ref a) "__hash__" _ >>= _) Q E s
  refine wpAny_bind (wpAny_callSpecialIfBoundUnlessNone?_slot hT F.slot_tuple_hash (wpAny_call_entry F.slot_tuple_hash hT F.entry_tuple_hash ?_ (F.args_tuple_hash_1 _)))
  show wpAny _ _ (Builtin.Tuple.tupleItemsOf (.ref a) >>= _) _ _ s
  refine wpAny_bind (wpAny_tupleItemsOf ho hd (wpAny_bind ?_))
  rw [← Array.forIn_toList]
  refine wpAny_forIn_list _ (fun r (b : Array Int) t => ∃ ps qs, ks = ps ++ qs ∧ Paired (ItOf s.heap) qs r ∧ b.toList = ps.map (h2 P w) ∧ t = { s with toks := s.toks + (ps.map n2).sum }) _ ?_ ?_ _ _ ⟨[], ks, rfl, by simpa using hi, rfl, rfl⟩
  · rintro v r b t ⟨ps, qs, rfl, hl, hb, rfl⟩
    cases hl with
    | @cons k _ qs' _ h1 hl' =>
      refine wpAny_bind (hash_it (P := P) (w := w) (s := { s with toks := s.toks + (ps.map n2).sum }) (by first | exact hu | exact hu0) h1 ?_)
      first
        | exact wpAny_pure ⟨ps ++ [k], qs', by simp, hl', by simp [hb], by simp [Nat.add_assoc]⟩
        | exact wpAny_bind (wpAny_pure (wpAny_pure ⟨ps ++ [k], qs', by simp, hl', by simp [hb], by simp [Nat.add_assoc]⟩))
  · rintro b t ⟨ps, qs, rfl, hl, hb, rfl⟩
    cases hl
    rw [List.append_nil] at q
    show wpAny _ _ (retInt (Builtin.Tuple.tupleHashOf b.toList)) _ _ _
    rw [hb]
    refine wpAny_ret_mkInt ?_
    unfold hash2 reduceHash draws2 at q
    show wpAny _ _ (if (decide (-(2 : Int) ^ 63 ≤ Builtin.Tuple.tupleHashOf (ps.map (h2 P w))) && decide (Builtin.Tuple.tupleHashOf (ps.map (h2 P w)) < 2 ^ 63)) = true then _ else _) Q E _
    split
    · rename_i hr
      rw [if_pos hr] at q
      exact wpAny_pure (by simpa [Nat.add_assoc] using q)
    · rename_i hr
      rw [if_neg hr] at q
      exact wpAny_bind (wpAny_rule (wpAny_pure (by simpa [Nat.add_assoc] using q)))
theorem key_eq {k k' : Key} {u v : Value} (x : RelV (kV k) u) (y : RelV (kV k') v) : SeqAt.EqAt A s u v (decide (k = k')) := by
  cases k with
  | inl i =>
    obtain ⟨t, rfl⟩ := x
    cases k' with
    | inl j =>
      obtain ⟨t', rfl⟩ := y
      have z := SeqAt.EqAt.int_int (A := A) (s := s) i t j t'
      rwa [show (i == j) = decide ((Sum.inl i : Key) = .inl j) by rw [Bool.eq_iff_iff]; simp] at z
    | inr j =>
      obtain ⟨t', rfl⟩ := y
      have z := SeqAt.EqAt.int_str (A := A) (s := s) i t j t'
      rwa [show false = decide ((Sum.inl i : Key) = .inr j) by simp] at z
  | inr i =>
    obtain ⟨t, rfl⟩ := x
    cases k' with
    | inl j =>
      obtain ⟨t', rfl⟩ := y
      have z := SeqAt.EqAt.str_int (A := A) (s := s) i t j t'
      rwa [show false = decide ((Sum.inr i : Key) = .inl j) by simp] at z
    | inr j =>
      obtain ⟨t', rfl⟩ := y
      have z := SeqAt.EqAt.str_str (A := A) (s := s) i t j t'
      rwa [show (i == j) = decide ((Sum.inr i : Key) = .inr j) by rw [Bool.eq_iff_iff]; simp] at z
theorem tups_rc {α : Type} [DecidableEq α] {a b : Addr} {us vs : List Value} {xs ys : List α} (h1 : s.heap.IsTuple a us.toArray) (h2 : s.heap.IsTuple b vs.toArray) (l1 : xs.length = us.length) (l2 : ys.length = vs.length) (hu : A.units < cLine)
    (he : ∀ (j : Nat) (x y : α) (u v : Value), xs[j]? = some x → ys[j]? = some y → us[j]? = some u → vs[j]? = some v → SeqAt.EqAt A.in1 s u v (decide (x = y))) : SeqAt.RcAt A s (.ref a) (.ref b) (decide (xs = ys)) := by
  have z := SeqAt.RcAt.tuples (e := fun j => decide (xs[j]? = ys[j]?)) h1 h2 hu (fun j q1 q2 => by
    have p1 : j < us.length := by simpa using q1
    have p2 : j < vs.length := by simpa using q2
    have x1 : xs[j]? = some (xs[j]'(by omega)) := List.getElem?_eq_getElem _
    have y1 : ys[j]? = some (ys[j]'(by omega)) := List.getElem?_eq_getElem _
    have := he j _ _ us[j] vs[j] x1 y1 (List.getElem?_eq_getElem _) (List.getElem?_eq_getElem _)
    simpa [x1, y1] using this)
  rwa [show ((List.range (min us.toArray.size vs.toArray.size)).all (fun j => decide (xs[j]? = ys[j]?)) && us.toArray.size == vs.toArray.size) = decide (xs = ys) by
    rw [Bool.eq_iff_iff]
    simp only [List.size_toArray, Bool.and_eq_true, List.all_eq_true, List.mem_range, decide_eq_true_eq, beq_iff_eq]
    constructor
    · rintro ⟨e1, e2⟩
      refine List.ext_getElem? fun j => ?_
      by_cases hj : j < us.length
      · exact e1 j (by omega)
      · rw [List.getElem?_eq_none_iff.mpr (by omega), List.getElem?_eq_none_iff.mpr (by omega)]
    · intro e
      subst e
      exact ⟨fun _ _ => rfl, by omega⟩] at z
theorem TupOf.eq {x y : List Key} {a b : Addr} (p : TupOf s.heap x a) (q : TupOf s.heap y b) (hu : A.units < cLine) : SeqAt.EqAt A s (.ref a) (.ref b) (decide (x = y)) := by
  by_cases hab : a = b
  · subst hab
    cases p.inj q
    rw [decide_eq_true rfl]
    exact SeqAt.EqAt.same _
  · obtain ⟨us, t1, r1⟩ := p
    obtain ⟨vs, t2, r2⟩ := q
    have l1 := r1.length
    have l2 := r2.length
    rw [List.length_map] at l1 l2
    refine SeqAt.EqAt.of_refs hab (tups_rc t1 t2 l1 l2 hu fun j k k' u v e1 e2 e3 e4 => ?_)
    obtain ⟨u', z1, z2⟩ := r1.get (i := j) (by rw [List.getElem?_map, e1]; rfl)
    obtain ⟨v', z3, z4⟩ := r2.get (i := j) (by rw [List.getElem?_map, e2]; rfl)
    rw [e3] at z1
    cases z1
    rw [e4] at z3
    cases z3
    exact key_eq z2 z4
theorem ItOf.eq {x y : K2} {u v : Value} (p : ItOf s.heap x u) (q : ItOf s.heap y v) (hu : A.units < cLine) : SeqAt.EqAt A s u v (decide (x = y)) := by
  cases x with
  | inl k =>
    cases y with
    | inl k' =>
      have z := key_eq (A := A) (s := s) p q
      rwa [show decide (k = k') = decide ((Sum.inl k : K2) = .inl k') by rw [Bool.eq_iff_iff]; simp] at z
    | inr ks =>
      obtain ⟨b, rfl, vs, t2, r2⟩ := q
      rw [show decide ((Sum.inl k : K2) = .inr ks) = false by simp]
      cases k with
      | inl i => obtain ⟨t, rfl⟩ := p; exact SeqAt.EqAt.int_tuple i t t2 hu
      | inr i => obtain ⟨t, rfl⟩ := p; exact SeqAt.EqAt.str_tuple i t t2 hu
  | inr ks =>
    cases y with
    | inl k =>
      obtain ⟨b, rfl, vs, t2, r2⟩ := p
      rw [show decide ((Sum.inr ks : K2) = .inl k) = false by simp]
      cases k with
      | inl i => obtain ⟨t, rfl⟩ := q; exact SeqAt.EqAt.tuple_int i t t2 hu
      | inr i => obtain ⟨t, rfl⟩ := q; exact SeqAt.EqAt.tuple_str i t t2 hu
    | inr ks' =>
      obtain ⟨a, rfl, t1⟩ := p
      obtain ⟨b, rfl, t2⟩ := q
      have z := TupOf.eq (A := A) t1 t2 hu
      rwa [show decide (ks = ks') = decide ((Sum.inr ks : K2) = .inr ks') by rw [Bool.eq_iff_iff]; simp] at z
theorem pairs_get {α β : Type} {F : α → β → Prop} : ∀ {l : List α} {m : List β} {i : Nat} {x : α} {y : β}, Paired F l m → l[i]? = some x → m[i]? = some y → F x y
  | _, _, 0, _, _, .cons r t, h1, h2 => by simp at h1 h2; subst h1 h2; exact r
  | _, _, i + 1, _, _, .cons r t, h1, h2 => pairs_get (i := i) t (by simpa using h1) (by simpa using h2)
  | _, _, _, _, _, .nil, h1, _ => by simp at h1
theorem Tup2.eq {x y : List K2} {a b : Addr} (p : Tup2 s.heap x a) (q : Tup2 s.heap y b) (hu : A.units + 1 < cLine) : SeqAt.EqAt A s (.ref a) (.ref b) (decide (x = y)) := by
  by_cases hab : a = b
  · subst hab
    cases p.inj q
    rw [decide_eq_true rfl]
    exact SeqAt.EqAt.same _
  · obtain ⟨us, t1, r1⟩ := p
    obtain ⟨vs, t2, r2⟩ := q
    exact SeqAt.EqAt.of_refs hab (tups_rc t1 t2 (Paired.length r1) (Paired.length r2) (by omega) fun j k k' u v e1 e2 e3 e4 => ItOf.eq (pairs_get r1 e1 e3) (pairs_get r2 e2 e4) (show A.units + 1 < cLine from hu))
theorem quiet_tup {n : Nat} {a : Addr} {us : List Value} {Q : Bool → Shared → Prop} (t : s.heap.IsTuple a us.toArray) (hi : ∀ v ∈ us, ∀ Q' : Bool → Shared → Prop, Q' true s → wpAny (model P w) A (eqIsQuiet n v) Q' E s) (q : Q true s) : wpAny (model P w) A (eqIsQuiet (n + 1) (.ref a)) Q E s := by
  obtain ⟨o, ho, hc, m, hd⟩ := t
  have hT : s.TypeIs (.ref a) "tuple" := ⟨o, ho, hc⟩
  unfold eqIsQuiet
  refine wpAny_bind (wpAny_specialOf hT F.slot_tuple_eq.lookup ?_)
  show wpAny _ _ (isInstance (.ref a) (.type "tuple") >>= _) _ _ s
  refine wpAny_bind (wpAny_isInstance hT isSubtype_tuple_tuple ?_)
  simp only [Bool.not_true, Bool.false_eq_true, if_false]
  refine wpAny_bind (wpAny_seqItems ho hd (wpAny_bind ?_))
  show wpAny _ _ (forIn us.toArray _ _) _ _ s
  rw [← Array.forIn_toList]
  refine wpAny_forIn_list _ (fun r b t => b.1 = none ∧ t = s ∧ ∀ v ∈ r, v ∈ us) _ ?_ ?_ _ _ ⟨rfl, rfl, fun v hv => by simpa using hv⟩
  · rintro v r b t ⟨hb, rfl, hall⟩
    refine wpAny_bind (hi v (hall v (by simp)) _ ?_)
    simp only [Bool.not_true, Bool.false_eq_true, if_false]
    exact wpAny_pure ⟨rfl, rfl, fun u hu' => hall u (List.mem_cons_of_mem _ hu')⟩
  · rintro ⟨r1, r2⟩ t ⟨hr, rfl, _⟩
    simp only at hr
    subst hr
    exact wpAny_pure q
theorem paired_mem {α β : Type} {F : α → β → Prop} : ∀ {l : List α} {m : List β} {y : β}, Paired F l m → y ∈ m → ∃ x ∈ l, F x y
  | _, _, _, .nil, h => by simp at h
  | _, _, _, .cons r t, h => by
    rcases List.mem_cons.mp h with z | z
    · subst z; exact ⟨_, by simp, r⟩
    · obtain ⟨x, hx, hf⟩ := paired_mem t z
      exact ⟨x, List.mem_cons_of_mem _ hx, hf⟩
theorem rel_byValue {k : Key} {v : Value} (r : RelV (kV k) v) : carriedByValue v = true := by
  cases k <;> (obtain ⟨t, rfl⟩ := r; rfl)
theorem Tup2.quiet {ks : List K2} {a : Addr} {Q : Bool → Shared → Prop} (x : Tup2 s.heap ks a) (q : Q true s) : wpAny (model P w) A (eqIsQuiet 8 (.ref a)) Q E s := by
  obtain ⟨us, t1, r1⟩ := x
  refine quiet_tup t1 (fun v hv Q' q' => ?_) q
  obtain ⟨k, _, hk⟩ := paired_mem r1 hv
  cases k with
  | inl k => rw [eqIsQuiet_byValue _ (rel_byValue hk)]; exact wpAny_pure q'
  | inr ks' =>
    obtain ⟨b, rfl, vs, t2, r2⟩ := hk
    refine quiet_tup t2 (fun u hu Q2 q2 => ?_) q'
    obtain ⟨k', _, hk'⟩ := paired_mem r2 hu
    have : ∃ c : Key, RelV (kV c) u := by
      obtain ⟨i, hl, rfl⟩ := List.getElem_of_mem hu
      have hl' : i < ks'.length := by have := r2.length; rw [List.length_map] at this; omega
      obtain ⟨u', z1, z2⟩ := r2.get (i := i) (x := kV ks'[i]) (by rw [List.getElem?_map, List.getElem?_eq_getElem hl']; rfl)
      rw [List.getElem?_eq_getElem hl] at z1
      cases z1
      exact ⟨_, z2⟩
    obtain ⟨c, hc⟩ := this
    rw [eqIsQuiet_byValue _ (rel_byValue hc)]
    exact wpAny_pure q2
end
def kind2 (P : Program) (w : World) : HeapKind P w (List K2) where
  is := Tup2
  hash := hash2 P w
  draws := draws2
  room := fun A => A.units + 1 < cLine
  inj := fun p q => p.inj q
  keeps := fun x e hd sb => x.keeps e hd sb
  pyHash := fun hu x q => hash_2 hu x q
  eqBool := fun hu x y q => (Tup2.eq x y hu) _ _ _ _ q
  quiet := fun x q => x.quiet q
def dicO (P : Program) (w : World) (a : Addr) (xs : List (List K2 × Addr × Value)) : HO := .ext fun h => (a == sysModules) = false ∧ ∃ o es ep, h.get? a = some o ∧ o.ExactDict ∧ o.data = .dict es ep ∧ es.toList = xs.map (entryOfKey (kind2 P w)) ∧ (xs.map (·.1)).Nodup
theorem dicO_ok {P : Program} {w : World} {H : Hp} {h : Heap} {a : Addr} {xs : List (List K2 × Addr × Value)} (x : (a == sysModules) = false ∧ ∃ o es ep, h.get? a = some o ∧ o.ExactDict ∧ o.data = .dict es ep ∧ es.toList = xs.map (entryOfKey (kind2 P w)) ∧ (xs.map (·.1)).Nodup) : ObjOk P w H h a (dicO P w a xs) := by
  refine ⟨x, ?_, fun h1 h2 ⟨e0, o, es, ep, e, r⟩ k => ⟨e0, o, es, ep, k o e, r⟩⟩
  obtain ⟨_, o, _, _, e, _⟩ := x
  exact ⟨o, e⟩
theorem sizeOf_sys {X : Cx} {pins : List (Addr × Obj)} {σ : St} {H : Hp} {s : Shared} (I : Inv X pins σ H s) : sysModules < s.heap.objs.size := by
  have h : mainGlobals < s.heap.objs.size := (I.mod.glob.keeps I.bk).lt
  exact Nat.lt_trans (by decide) h
end L2
set_option Elab.async false
set_option linter.all false
set_option maxRecDepth 100000
set_option maxHeartbeats 4000000
namespace L3
open PySem PySem.Spec PySem.Calls PyProof.Rows L2
def keyD : Key → D
  | .inl i => .int i
  | .inr x => .str x
def k2D : K2 → D
  | .inl k => keyD k
  | .inr ks => .tup (ks.map keyD)
def kD (ks : List K2) : D := .tup (ks.map k2D)
theorem is_key {K : PySem.W.Frag} {F : Hp} {k : Key} {v : V} (h : Is K F (keyD k) v) : v = kV k := by
  cases k with
  | inl i => exact isI h
  | inr x => exact isS h
theorem is_keys {K : PySem.W.Frag} {F : Hp} : ∀ {ks : List Key} {xs : List V}, IsL K F (ks.map keyD) xs → xs = ks.map kV
  | [], _, h => by simp only [List.map_nil, IsL] at h; subst h; rfl
  | k :: ks, _, h => by
    simp only [List.map_cons, IsL] at h
    obtain ⟨x, r, rfl, h1, h2⟩ := h
    rw [is_key h1, is_keys h2]; rfl
section
variable {X : Cx} {pins : List (Addr × Obj)} {σ : L2.St} {H : Hp} {s : Shared}
theorem it_at (I : Inv X pins σ H s) {k : K2} {x : V} {u : Value} (h : Is X.K H (k2D k) x) (r : RelV x u) : ItOf s.heap k u := by
  cases k with
  | inl k =>
    rw [is_key h] at r
    exact r
  | inr ks =>
    obtain ⟨a, xs, rfl, s1, il⟩ := isT h
    obtain ⟨us, rv, t1, _⟩ := I.tuple s1
    rw [is_keys il] at rv
    exact ⟨a, r, us, t1, rv⟩
theorem its_at (I : Inv X pins σ H s) : ∀ {ks : List K2} {xs : List V} {us : List Value}, IsL X.K H (ks.map k2D) xs → Vals xs us → Paired (ItOf s.heap) ks us
  | [], _, _, h, r => by
    simp only [List.map_nil, IsL] at h
    subst h
    cases r
    exact .nil
  | k :: ks, _, _, h, r => by
    simp only [List.map_cons, IsL] at h
    obtain ⟨x, r', rfl, h1, h2⟩ := h
    cases r with
    | cons a b => exact .cons (it_at I h1 a) (its_at I h2 b)
theorem key_at (I : Inv X pins σ H s) {ks : List K2} {a : Addr} (h : Is X.K H (kD ks) (.ref a)) : Tup2 s.heap ks a := by
  obtain ⟨a', xs, e, s1, il⟩ := isT h
  cases e
  obtain ⟨us, rv, t1, _⟩ := I.tuple s1
  exact ⟨us, t1, its_at I il rv⟩
end
abbrev DP (K : PySem.W.Frag) (F : Hp) : List (List K2 × D) → List (List K2 × Addr × Value) → Prop := Paired fun p q => p.1 = q.1 ∧ Is K F (kD q.1) (.ref q.2.1) ∧ ∃ v, RelV v q.2.2 ∧ Is K F p.2 v
def atD (kvs : List (List K2 × D)) (k : List K2) : Option D := (kvs.find? fun p => decide (p.1 = k)).map (·.2)
def putD (kvs : List (List K2 × D)) (k : List K2) (d : D) : List (List K2 × D) := if (atD kvs k).isSome = true then kvs.map fun p => if p.1 = k then (p.1, d) else p else kvs ++ [(k, d)]
theorem DP.mono {K : PySem.W.Frag} {F F' : Hp} {kvs : List (List K2 × D)} {xs : List (List K2 × Addr × Value)} (h : DP K F kvs xs) (e : Same F F') : DP K F' kvs xs := Paired.mapP h fun p q ⟨h1, h2, v, r, i⟩ => ⟨h1, h2.mono e, v, r, i.mono e⟩
theorem DP.at {K : PySem.W.Frag} {F : Hp} {k : List K2} : ∀ {kvs : List (List K2 × D)} {xs : List (List K2 × Addr × Value)}, DP K F kvs xs → (atKey xs k = none ∧ atD kvs k = none) ∨ ∃ p d v, atKey xs k = some p ∧ atD kvs k = some d ∧ RelV v p.2 ∧ Is K F d v
  | _, _, .nil => .inl ⟨rfl, rfl⟩
  | _, _, @Paired.cons _ _ _ p q ps qs ⟨h1, h2, v, r, i⟩ t => by
    by_cases e : p.1 = k
    · have e' : q.1 = k := h1.symm.trans e
      exact .inr ⟨q.2, p.2, v, by simp [atKey, List.find?_cons, e'], by simp [atD, List.find?_cons, e], r, i⟩
    · have e' : ¬ q.1 = k := fun z => e (h1.trans z)
      have ih := DP.at (k := k) t
      rwa [show atKey qs k = atKey (q :: qs) k by simp [atKey, List.find?_cons, e'], show atD ps k = atD (p :: ps) k by simp [atD, List.find?_cons, e]] at ih
theorem DP.some_eq {K : PySem.W.Frag} {F : Hp} {k : List K2} {kvs : List (List K2 × D)} {xs : List (List K2 × Addr × Value)} (h : DP K F kvs xs) : (atKey xs k).isSome = (atD kvs k).isSome := by
  rcases h.at (k := k) with ⟨e1, e2⟩ | ⟨p, d, v, e1, e2, _⟩
  · rw [e1, e2]; rfl
  · rw [e1, e2]; rfl
theorem DP.put {K : PySem.W.Frag} {F : Hp} {k : List K2} {kvs : List (List K2 × D)} {xs : List (List K2 × Addr × Value)} {a : Addr} {d : D} {v : V} {u : Value} (h : DP K F kvs xs) (hk : Is K F (kD k) (.ref a)) (r : RelV v u) (i : Is K F d v) : DP K F (putD kvs k d) (storedH xs k a u) := by
  unfold putD storedH
  rw [h.some_eq]
  split
  · have go : ∀ {ps : List (List K2 × D)} {qs : List (List K2 × Addr × Value)}, DP K F ps qs → DP K F (ps.map fun p => if p.1 = k then (p.1, d) else p) (qs.map (putAt k u)) := by
      intro ps qs t
      induction t with
      | nil => exact .nil
      | @cons p q ps qs hh t ih =>
        obtain ⟨h1, h2, v', r', i'⟩ := hh
        rw [List.map_cons, List.map_cons]
        refine .cons ?_ ih
        unfold putAt
        by_cases e : p.1 = k
        · rw [if_pos e, if_pos (h1.symm.trans e)]
          exact ⟨h1, h2, v, r, i⟩
        · rw [if_neg e, if_neg fun z => e (h1.trans z)]
          exact ⟨h1, h2, v', r', i'⟩
    exact go h
  · exact Paired.snoc h ⟨rfl, hk, v, r, i⟩
def oDic (P : Program) (w : World) (K : PySem.W.Frag) (a : Addr) (kvs : List (List K2 × D)) : Ow := fun F o => ∃ xs, o = dicO P w a xs ∧ DP K F kvs xs
section
variable {X : Cx} {pins : List (Addr × Obj)} {σ : L2.St} {H : Hp} {s : Shared} {l : Addr} {xs : List (List K2 × Addr × Value)} {kvs : List (List K2 × D)}
theorem dic_of (I : Inv X pins σ H s) (e : H l = some (dicO X.prog X.w l xs)) (h : DP X.K H kvs xs) : (l == sysModules) = false ∧ s.heap.DictOfH (kind2 X.prog X.w) l xs := by
  obtain ⟨⟨h0, o, es, ep, h1, h2, h3, h4, h5⟩, _⟩ := (show ObjOk X.prog X.w H s.heap l (dicO X.prog X.w l xs) from I.hok l _ e)
  refine ⟨h0, o, es, ep, h1, h2, h3, h4, fun x hx => ?_, h5⟩
  obtain ⟨p, _, hp⟩ := paired_mem h hx
  exact key_at I hp.2.1
end
def rInD (X : Cx) (neg : Bool) : R2 := fun x y H Q => ∃ b l ks kvs xs, x = .ref b ∧ Is X.K H (kD ks) x ∧ y = .ref l ∧ H l = some (dicO X.prog X.w l xs) ∧ DP X.K H kvs xs ∧ Q (.bl (if neg then !(atD kvs ks).isSome else (atD kvs ks).isSome)) H
def rSetD (X : Cx) : TSet := fun o i v H Q => ∃ l b ks kvs xs d, o = .ref l ∧ i = .ref b ∧ Is X.K H (kD ks) i ∧ H l = some (dicO X.prog X.w l xs) ∧ DP X.K H kvs xs ∧ kvs.length < sizeLine ∧ Is X.K H d v ∧ ∀ u, RelV v u → Q (upd H l (dicO X.prog X.w l (storedH xs ks b u)))
section
variable {X : Cx}
theorem op_inD (hu : X.A.units + 64 < cLine) : OpR X (compareOp .In) (rInD X false) := by
  rintro pins s σ H x y v u Q I rx ry ⟨b, l, ks, kvs, xs, rfl, hk, rfl, hl, dp, q⟩
  cases rx
  cases ry
  obtain ⟨h0, dd⟩ := dic_of I hl dp
  refine wpAny_in_heap (show X.A.units + 1 + 1 < cLine by omega) (key_at I hk) h0 dd ?_
  rw [dp.some_eq]
  exact ⟨.bl _, H, I.tok _, rfl, q⟩
theorem set_dic (hu : X.A.units + 64 < cLine) : PSet X (rSetD X) := by
  rintro pins s σ H o i v ov iv u Q I ro ri rv ⟨l, b, ks, kvs, xs, d, rfl, rfl, hk, hl, dp, hz, hd, q⟩
  cases ro
  cases ri
  obtain ⟨h0, dd⟩ := dic_of I hl dp
  have hx : xs.length ≤ sizeLine := by rw [← Paired.length dp]; omega
  refine wpAny_setItem_heap (hsz := hx) (show X.A.units + 1 + 1 < cLine by omega) (key_at I hk) dd fun h' dd' hs => ⟨_, ?_, q u rv⟩
  obtain ⟨o', es, ep, z1, z2, z3, z4, _, z5⟩ := dd'
  exact I.write (x := l) (e := l) (by rw [hl]; exact True.intro) (.inl rfl) (fun c q hb z => (hs.2 c hb).trans z) ⟨o', z1⟩ (dicO_ok ⟨h0, o', es, ep, z1, z2, z3, z4, z5⟩)
theorem pe_dnew2 {pos : Pos} : PE X (.Dict [] [] pos) (fun _ H Q => ∀ p, H p = none → Q (.ref p) (upd H p (dicO X.prog X.w p []))) := fun pins s σ H Q I h =>
  wpAny_Dict_empty ⟨.ref s.heap.objs.size, _, I.laid (a := s.heap.objs.size) (o := dicO X.prog X.w s.heap.objs.size []) (t' := s.toks) (fun _ _ q => Heap.get?_push_of_some _ q) (Nat.le_refl _)
    (dicO_ok ⟨beq_eq_false_iff_ne.mpr (Ne.symm (Nat.ne_of_lt (sizeOf_sys I))), _, #[], 0, Heap.get?_push_size _ rfl, ⟨rfl, rfl, rfl⟩, rfl, rfl, List.nodup_nil⟩), rfl, h _ (I.hok.fresh (Nat.le_refl _))⟩
end
section
variable {X : Cx} {B : Bs} {Γ : Ga} {Ω : Om} {E : E3} {rest : List Stmt} {a b e o i : Expr} {pos pos' spos tpos : Pos} {R : D → Om → Prop} {RT : Bool → Om → Prop} {x : Str}
theorem v_dnew (r : ∀ l, R (.raw (.ref l)) ((l, oDic X.prog X.w X.K l []) :: Ω)) : V3 X B (.Dict [] [] pos) Γ Ω R := fun F σ H S pins s I =>
  pe_dnew2 pins s σ H _ I fun l hl => ⟨.raw (.ref l), _, F, S.new (Pur.layOwn S.fh hl) hl (S.fh.free hl) upd_same (fun F2 _ => ⟨[], rfl, .nil⟩), Same.refl _, i_raw F, r l⟩
theorem inD_own {neg : Bool} {F : Hp} {σ : L2.St} {H : Hp} {ks : List K2} {l : Addr} {kvs : List (List K2 × D)} {x y : V} {Q : VK} (S : Sat X.K B Γ Ω F σ H) (i1 : Is X.K F (kD ks) x) (i2 : Is X.K F (.raw (.ref l)) y) (m : (l, oDic X.prog X.w X.K l kvs) ∈ Ω)
    (q : Q (.bl (if neg then !(atD kvs ks).isSome else (atD kvs ks).isSome)) H) : rInD X neg x y H Q := by
  cases isR i2
  obtain ⟨fa, o', ha, ho⟩ := S.own _ m
  obtain ⟨xs, rfl, dp⟩ := ho F (Same.refl _)
  obtain ⟨c, _, rfl, _⟩ := isT i1
  exact ⟨c, l, ks, kvs, xs, rfl, i1.mono S.fh, rfl, ha, dp.mono S.fh, q⟩
theorem vt_inD (hu : X.A.units + 64 < cLine) (h : V3 X B a Γ Ω fun d Ω1 => ∃ ks, d = kD ks ∧ V3 X B b Γ Ω1 fun d' Ω2 => ∃ l kvs, d' = .raw (.ref l) ∧ (l, oDic X.prog X.w X.K l kvs) ∈ Ω2 ∧ RT (atD kvs ks).isSome Ω2)
    (hm : behindInMarks .In b = false := by first | exact nomark _ | with_unfolding_all rfl) : VT3 X B (.Compare a [.In] [b] pos) Γ Ω RT := fun F σ H S pins s I =>
  pt_cmpR (op_inD hu) pe_w pe_w hm pins s σ H _ I ((h F σ H S).mono fun x H1 ⟨d, Ω1, F1, S1, f1, i1, ks, e1, h1⟩ => (h1 F1 σ H1 S1).mono fun y H2 ⟨d', Ω2, F2, S2, f2, i2, l, kvs, e2, m, q⟩ => by
    subst e1 e2
    exact inD_own S2 (i1.mono f2) i2 m ⟨_, rfl, Ω2, F2, S2, f1.trans f2, q⟩)
theorem w_setD (hu : X.A.units + 64 < cLine) (h : V3 X B e Γ Ω fun d Ω1 => V3 X B o Γ Ω1 fun dq Ω2 => ∃ l, dq = .raw (.ref l) ∧ V3 X B i Γ Ω2 fun di Ω3 => ∃ ks kvs Ω4, di = kD ks ∧ Ω3.Perm ((l, oDic X.prog X.w X.K l kvs) :: Ω4) ∧ kvs.length < sizeLine ∧ W3 X B rest Γ ((l, oDic X.prog X.w X.K l (putD kvs ks d)) :: Ω4) E)
    (hs : swapsWithSole [.Subscript o i tpos] e spos.line X.env = pure false := by rfl) (hw : swappedStores [.Subscript o i tpos] e X.env = pure none := by rfl) (h1 : (assignEach [.Subscript o i tpos] X.env).map (·.2) = [assign (.Subscript o i tpos) X.env] := by rfl)
    (ha : ∀ v, assign (.Subscript o i tpos) X.env v = (do
      let ov ← holding [v] (eval o X.env)
      let iv ← holding [v, ov] (eval i X.env)
      standAt tpos
      holding [v, ov, iv] (setItem ov iv v)
      release [v, ov, iv] []) := by intro _; rfl) : W3 X B (.Assign [.Subscript o i tpos] e spos :: rest) Γ Ω E := fun F σ H S pins s I =>
  pss_cons (ps_asg pe_w (pg_sub pe_w pe_w (set_dic hu) ha) hs hw h1) pss_w pins s σ H _ I ((h F σ H S).mono fun v H1 ⟨d, Ω1, F1, S1, f1, i1, h1⟩ => (h1 F1 σ H1 S1).mono fun y H2 ⟨dq, Ω2, F2, S2, f2, i2, l, e2, h2⟩ => (h2 F2 σ H2 S2).mono fun z H3 ⟨di, Ω3, F3, S3, f3, i3, ks, kvs, Ω4, e3, pm, hz, h3⟩ => by
    subst e2 e3
    cases isR i2
    have S4 := S3.perm pm.symm
    obtain ⟨fa, o', ha', ho⟩ := S4.own (l, oDic X.prog X.w X.K l kvs) (by simp)
    obtain ⟨xs, rfl, dp⟩ := ho F3 (Same.refl _)
    obtain ⟨c, _, rfl, _⟩ := isT i3
    refine ⟨l, c, ks, kvs, xs, d, rfl, rfl, i3.mono S3.fh, ha', dp.mono S3.fh, hz, (i1.mono (f2.trans f3)).mono S3.fh, fun u ru => ?_⟩
    exact to_mono (f1.trans (f2.trans f3)) (h3 F3 σ _ (S4.turn fun F5 e5 => ⟨_, rfl, DP.put (dp.mono e5) (i3.mono e5) ru (i1.mono (f2.trans (f3.trans e5)))⟩)))
end
end L3
set_option Elab.async false
set_option linter.all false
set_option maxRecDepth 100000
set_option maxHeartbeats 4000000
namespace L3
open PySem PySem.Spec PySem.Calls PyProof.Rows L2
section
variable {X : Cx} {Γ : Ga} {a b c : Expr} {pos : Pos} {x y z : Str}
end
section
variable {P : Program} {w : World} {K : PySem.W.Frag} {mg : Str → Option Value} {base : Heap} {x q : Str} {st : Stmt} {N ps : List Str} {k n : Nat} {Cc : Addr}
end
end L3
set_option Elab.async false
set_option linter.all false
set_option maxRecDepth 100000
set_option maxHeartbeats 4000000
namespace L2
open PySem PySem.Spec PySem.Calls PyProof.Rows
end L2
namespace L3
open PySem PySem.Spec PySem.Calls PyProof.Rows L2
section
variable {X : Cx} {B : Bs} {Γ : Ga} {Ω : Om} {E : E3} {rest : List Stmt} {a b e : Expr} {es : List Expr} {pos p : Pos} {ds gs : List D} {x : Str} {k n : Nat} {R : D → Om → Prop}
def spR (K : PySem.W.Frag) (n : Nat) (C0 : List D → Prop) (C : List D → D → Prop) : Sp := fun vs H Q _ => ∃ ds F, ds.length = n ∧ Same F H ∧ IsL K F ds vs ∧ C0 ds ∧ ∀ d, C ds d → ∀ v H' F', Pur F H F' H' → Is K F' d v → Q v H'
theorem v_callR {C0 : List D → Prop} {C : List D → D → Prop} {ps : List Str} (o : OkF X.prog X.w X.K X.mg X.base CX0 k x ps (spR X.K n C0 C)) (hr : Room k X.A) (hg : Gl X x) (ha : PL3 X Γ (e :: es) ds) (h0 : C0 ds) (h : ∀ d, C ds d → R d Ω) (hn : ds.length = n := by rfl) (hdb : (x == ("__debug__" : Str)) = false := by decide)
    (he : starEach (e :: es) X.env = (false, eval e X.env) :: starEach es X.env := by rfl) (hpl : (backTo pos (starEach es X.env)).any (·.1) = false := by rfl) : V3 X B (.Call (.Name x p) (e :: es) [] pos) Γ Ω R := fun F σ H S pins s I =>
  pe_fn o hr hg ha hdb he hpl pins s σ H _ I ⟨F, S.fh, S.sl, fun vs H' F' pu i => by
    dsimp only
    rw [List.append_nil]
    exact ⟨ds, F', hn, pu.fh, i, h0, fun d hd v H2 F2 p2 i2 => ⟨d, Ω, F2, S.pur (pu.trans p2), pu.ff.trans p2.ff, i2, h d hd⟩⟩⟩
end
theorem ok_rel {P : Program} {w : World} {K : PySem.W.Frag} {mg : Str → Option Value} {base : Heap} {x : Str} {st : Stmt} {N ps : List Str} {k n : Nat} {C0 : List D → Prop} {C : List D → D → Prop} (d : DefK K mg x st ps) (S : FnScope N ps (defScope st)) (hn : ps.length = n)
    (body : ∀ (f : Addr) (cdv : Value) (A : Around) (outer : List Env) (s : Shared) (H : Hp) (E : XK), Room k (A.deeper (envOfC x (defScope st) s.heap.objs.size f cdv)) → ∀ (ds : List D), C0 ds → ∀ B : Bs, B.M = [] →
      W3 (cx0 P w K mg base N x st f cdv A outer s H E) B (defBody st) (startG N ds) [] ⟨fun _ _ => False, fun r _ => C ds r, fun _ _ => False, fun _ _ => False⟩) : OkF P w K mg base CX0 (k + 1) x ps (spR K n C0 C) := by
  refine d.ok S (fun vs H Q E h => ?_) fun f cdv A outer s H vs Q E hr h => ⟨_, pss_w, ?_⟩
  · obtain ⟨ds, F, l, _, i, _⟩ := h
    rw [i.len, l, hn]
  · obtain ⟨ds, F, hl, fh, il, c0, q⟩ := h
    refine ends_mono (D := E3.to K ⟨[], F, H⟩ F ⟨fun _ _ => False, fun r _ => C ds r, fun _ _ => False, fun _ _ => False⟩) (D' := { nx := fun _ H' => Q .non H', rt := Q }) ?_ ?_ ?_ ?_ (body f cdv A outer s H E hr ds c0 ⟨[], F, H⟩ rfl F _ H (Sat.entry fh il))
    · rintro σ' H' ⟨_, _, _, _, _, z⟩
      exact z.elim
    · rintro v H' ⟨r, Ω', F', ⟨σ', S'⟩, f', iv, hC⟩
      exact q r hC v H' F' (S'.toPur rfl) iv
    · rintro σ' H' ⟨_, _, _, _, _, z⟩
      exact z.elim
    · rintro σ' H' ⟨_, _, _, _, _, z⟩
      exact z.elim
end L3
set_option Elab.async false
set_option linter.all false
set_option maxRecDepth 100000
set_option maxHeartbeats 4000000
namespace L3
open PySem PySem.Spec PySem.Calls PyProof.Rows L2
end L3
set_option Elab.async false
set_option linter.all false
set_option maxRecDepth 100000
set_option maxHeartbeats 4000000
namespace L3
open PySem
def lt (i : Nat) : Nat := if i < 26 then 97 + i else 65 + (i - 26)
def letS : Str := "abcdefghijklmnopqrstuvwxyzABCDEFGHIJKLMNOPQRSTUVWXYZ"
theorem letS_get : ∀ i : Fin 52, letS.cps.toList[i.val]? = some (lt i.val) := by decide +kernel
def isLet (n : Nat) : Bool := (decide (97 ≤ n) && decide (n ≤ 122)) || (decide (65 ≤ n) && decide (n ≤ 90))
theorem lt_let {i : Nat} (h : i < 52) : isLet (lt i) = true := by
  unfold lt isLet
  split <;> simp <;> omega
theorem lt_inj {i j : Nat} (hi : i < 52) (hj : j < 52) (h : lt i = lt j) : i = j := by
  unfold lt at h
  split at h <;> split at h <;> omega
def IsSym (x : Str) : Prop := 1 ≤ x.cps.size ∧ x.cps.size ≤ 8 ∧ ∀ c ∈ x.cps.toList, isLet c = true
def szC (c : Int) : Nat := (1 + c % 8).toNat
def atC (c : Int) : Nat := (c / 8 % (1 + c % 8)).toNat
def bsC (c : Int) : Nat := (c / 64 % 52).toNat
def stp (c : Int) (k p : Nat) : Nat := bsC c + 7 * p + if p = atC c then k else 0
def symL (c : Int) (k n : Nat) : List Nat := (List.range n).map fun p => lt (stp c k p % 52)
def symS (c : Int) (k : Nat) : Str := ⟨(symL c k (szC c)).toArray⟩
theorem szC_in (c : Int) : 1 ≤ szC c ∧ szC c ≤ 8 := by unfold szC; omega
theorem szC_eq (c : Int) : ((szC c : Nat) : Int) = 1 + c % 8 := by unfold szC; omega
theorem atC_lt (c : Int) : atC c < szC c := by
  have h : 0 < 1 + c % 8 := by omega
  have h1 := Int.emod_lt_of_pos (c / 8) h
  have h2 := Int.emod_nonneg (c / 8) (show 1 + c % 8 ≠ 0 by omega)
  unfold atC szC
  omega
theorem atC_eq (c : Int) : ((atC c : Nat) : Int) = c / 8 % (1 + c % 8) := by
  have h2 := Int.emod_nonneg (c / 8) (show 1 + c % 8 ≠ 0 by omega)
  unfold atC
  omega
theorem bsC_eq (c : Int) : ((bsC c : Nat) : Int) = c / 64 % 52 := by unfold bsC; omega
theorem symL_len {c : Int} {k n : Nat} : (symL c k n).length = n := by unfold symL; simp
theorem symL_succ {c : Int} {k n : Nat} : symL c k (n + 1) = symL c k n ++ [lt (stp c k n % 52)] := by unfold symL; rw [List.range_succ, List.map_append]; rfl
theorem sym_is (c : Int) (k : Nat) : IsSym (symS c k) := by
  have := szC_in c
  refine ⟨?_, ?_, fun x hx => ?_⟩
  · unfold symS; simp [symL_len]; omega
  · unfold symS; simp [symL_len]; omega
  · unfold symS symL at hx
    simp only [List.mem_map, List.mem_range] at hx
    obtain ⟨p, _, rfl⟩ := hx
    exact lt_let (Nat.mod_lt _ (by decide))
theorem sym_inj {c : Int} {j k : Nat} (hj : j < 52) (hk : k < 52) (h : symS c j = symS c k) : j = k := by
  have e : symL c j (szC c) = symL c k (szC c) := by
    unfold symS at h
    injection h with h
    simpa using h
  have ha := atC_lt c
  have e2 : (symL c j (szC c))[atC c]? = (symL c k (szC c))[atC c]? := by rw [e]
  unfold symL at e2
  rw [List.getElem?_map, List.getElem?_map, List.getElem?_range ha] at e2
  simp only [Option.map_some, Option.some.injEq] at e2
  have e3 := lt_inj (Nat.mod_lt _ (by decide)) (Nat.mod_lt _ (by decide)) e2
  unfold stp at e3
  rw [if_pos rfl, if_pos rfl] at e3
  omega
theorem nodup_map {α β : Type} {f : α → β} {l : List α} (h : ∀ x ∈ l, ∀ y ∈ l, f x = f y → x = y) (hn : l.Nodup) : (l.map f).Nodup := by
  unfold List.Nodup at hn ⊢
  rw [List.pairwise_map]
  exact List.Pairwise.imp_of_mem (fun ha hb hab z => hab (h _ ha _ hb z)) hn
theorem syms_nodup {c : Int} : ∀ {n : Nat}, n ≤ 52 → ((List.range n).map (symS c)).Nodup := fun {n} hn => by
  refine nodup_map (fun x hx y hy e => ?_) List.nodup_range
  rw [List.mem_range] at hx hy
  exact sym_inj (by omega) (by omega) e
abbrev Rule := Str × List Str × Rat
def addHead (acc : List Str) (r : Rule) : List Str := if r.1 ∈ acc then acc else acc ++ [r.1]
def firsts (rs : List Rule) : List Str := rs.foldl addHead []
def addIf (h : Str) (t : Rat) (r : Rule) : Rat := if r.1 = h then t + r.2.2 else t
def sumOf (h : Str) (rs : List Rule) : Rat := rs.foldl (addIf h) 0
structure GOk (hs ws : List Str) (rs : List Rule) : Prop where
  nd : (hs ++ ws).Nodup
  sym : ∀ x ∈ hs ++ ws, IsSym x
  h0 : hs ≠ []
  w0 : ws ≠ []
  hl : hs.length ≤ 4
  wl : ws.length ≤ 3
  r0 : rs ≠ []
  rl : rs.length ≤ 12
  fst : firsts rs = hs
  one : ∀ h ∈ hs, sumOf h rs = 1
  body : ∀ r ∈ rs, 1 ≤ r.2.1.length ∧ r.2.1.length ≤ 4 ∧ ∀ x ∈ r.2.1, x ∈ hs ++ ws
  pos : ∀ r ∈ rs, 0 < r.2.2 ∧ r.2.2.num.natAbs < 2 ^ 5 ∧ r.2.2.den < 2 ^ 5
  prs : (rs.map fun r => (r.1, r.2.1)).Nodup
abbrev Grp := List (List Str × Rat)
def grp (h : Str) (g : Grp) : List Rule := g.map fun p => (h, p.1, p.2)
def flat (ps : List (Str × Grp)) : List Rule := ps.flatMap fun p => grp p.1 p.2
structure GrpOk (sy : List Str) (g : Grp) : Prop where
  ne : g ≠ []
  le : g.length ≤ 3
  nd : (g.map (·.1)).Nodup
  one : (g.map (·.2)).sum = 1
  body : ∀ p ∈ g, 1 ≤ p.1.length ∧ p.1.length ≤ 4 ∧ ∀ x ∈ p.1, x ∈ sy
  pos : ∀ p ∈ g, 0 < p.2 ∧ p.2.num.natAbs < 2 ^ 5 ∧ p.2.den < 2 ^ 5
theorem heads_same {h : Str} {acc : List Str} (hm : h ∈ acc) : ∀ g : Grp, (grp h g).foldl addHead acc = acc
  | [] => rfl
  | p :: g => by
    show (grp h g).foldl addHead (addHead acc (h, p.1, p.2)) = acc
    rw [show addHead acc (h, p.1, p.2) = acc from if_pos hm]
    exact heads_same hm g
theorem heads_new {h : Str} {acc : List Str} (hm : h ∉ acc) : ∀ {g : Grp}, g ≠ [] → (grp h g).foldl addHead acc = acc ++ [h]
  | [], hg => absurd rfl hg
  | p :: g, _ => by
    show (grp h g).foldl addHead (addHead acc (h, p.1, p.2)) = acc ++ [h]
    rw [show addHead acc (h, p.1, p.2) = acc ++ [h] from if_neg hm]
    exact heads_same (by simp) g
theorem heads_flat : ∀ {ps : List (Str × Grp)} {acc : List Str}, (acc ++ ps.map (·.1)).Nodup → (∀ p ∈ ps, p.2 ≠ []) → (flat ps).foldl addHead acc = acc ++ ps.map (·.1)
  | [], acc, _, _ => by simp [flat]
  | p :: ps, acc, hn, hg => by
    have nm : p.1 ∉ acc := fun z => by
      rw [List.nodup_append] at hn
      exact hn.2.2 _ z _ (by simp) rfl
    show (grp p.1 p.2 ++ flat ps).foldl addHead acc = _
    rw [List.foldl_append, heads_new nm (hg p (by simp)), heads_flat (by simpa using hn) fun q hq => hg q (List.mem_cons_of_mem _ hq)]
    simp
theorem sum_other {h h' : Str} (hn : h' ≠ h) : ∀ (g : Grp) (t : Rat), (grp h' g).foldl (addIf h) t = t
  | [], t => rfl
  | p :: g, t => by
    show (grp h' g).foldl (addIf h) (addIf h t (h', p.1, p.2)) = t
    rw [show addIf h t (h', p.1, p.2) = t from if_neg hn]
    exact sum_other hn g t
theorem sum_own {h : Str} : ∀ (g : Grp) (t : Rat), (grp h g).foldl (addIf h) t = t + (g.map (·.2)).sum
  | [], t => by simp [grp, Rat.add_zero]
  | p :: g, t => by
    show (grp h g).foldl (addIf h) (addIf h t (h, p.1, p.2)) = _
    rw [show addIf h t (h, p.1, p.2) = t + p.2 from if_pos rfl, sum_own g, List.map_cons, List.sum_cons]
    grind
theorem sum_flat0 {h : Str} : ∀ {ps : List (Str × Grp)} {t : Rat}, (∀ p ∈ ps, p.1 ≠ h) → (flat ps).foldl (addIf h) t = t
  | [], t, _ => rfl
  | p :: ps, t, hn => by
    show (grp p.1 p.2 ++ flat ps).foldl (addIf h) t = t
    rw [List.foldl_append, sum_other (hn p (by simp)), sum_flat0 fun q hq => hn q (List.mem_cons_of_mem _ hq)]
theorem sum_flat {h : Str} : ∀ {ps : List (Str × Grp)} {t : Rat}, (ps.map (·.1)).Nodup → (∀ p ∈ ps, (p.2.map (·.2)).sum = 1) → h ∈ ps.map (·.1) → (flat ps).foldl (addIf h) t = t + 1
  | [], t, _, _, hm => by simp at hm
  | p :: ps, t, hn, ho, hm => by
    rw [List.map_cons, List.nodup_cons] at hn
    show (grp p.1 p.2 ++ flat ps).foldl (addIf h) t = t + 1
    rw [List.foldl_append]
    by_cases e : p.1 = h
    · subst e
      rw [sum_own, ho p (by simp), sum_flat0 fun q hq z => hn.1 (List.mem_map.mpr ⟨q, hq, z⟩)]
    · rw [sum_other e, sum_flat hn.2 (fun q hq => ho q (List.mem_cons_of_mem _ hq))]
      rw [List.map_cons, List.mem_cons] at hm
      rcases hm with z | z
      · exact absurd z.symm e
      · exact z
theorem flat_mem {ps : List (Str × Grp)} {r : Rule} (h : r ∈ flat ps) : ∃ p ∈ ps, r.1 = p.1 ∧ (r.2.1, r.2.2) ∈ p.2 := by
  unfold flat grp at h
  simp only [List.mem_flatMap, List.mem_map] at h
  obtain ⟨p, hp, q, hq, rfl⟩ := h
  exact ⟨p, hp, rfl, hq⟩
theorem flat_len : ∀ {ps : List (Str × Grp)}, (∀ p ∈ ps, p.2.length ≤ 3) → (flat ps).length ≤ 3 * ps.length
  | [], _ => by simp [flat]
  | p :: ps, h => by
    have a := flat_len (ps := ps) fun q hq => h q (List.mem_cons_of_mem _ hq)
    have b := h p (by simp)
    show (grp p.1 p.2 ++ flat ps).length ≤ _
    rw [List.length_append, List.length_cons]
    have : (grp p.1 p.2).length = p.2.length := by unfold grp; simp
    omega
theorem flat_prs : ∀ {ps : List (Str × Grp)}, (ps.map (·.1)).Nodup → (∀ p ∈ ps, (p.2.map (·.1)).Nodup) → ((flat ps).map fun r => (r.1, r.2.1)).Nodup
  | [], _, _ => by simp [flat]
  | p :: ps, hn, hg => by
    rw [List.map_cons, List.nodup_cons] at hn
    show ((grp p.1 p.2 ++ flat ps).map fun r => (r.1, r.2.1)).Nodup
    rw [List.map_append, List.nodup_append]
    refine ⟨?_, flat_prs hn.2 fun q hq => hg q (List.mem_cons_of_mem _ hq), fun x hx y hy e => ?_⟩
    · have h1 := hg p (by simp)
      unfold grp
      rw [List.map_map]
      have : ((fun r : Rule => (r.1, r.2.1)) ∘ fun q : List Str × Rat => (p.1, q.1, q.2)) = (fun b => (p.1, b)) ∘ fun q : List Str × Rat => q.1 := rfl
      rw [this, ← List.map_map]
      exact nodup_map (fun a _ b _ e => by injection e) h1
    · obtain ⟨r, hr, rfl⟩ := List.mem_map.mp hx
      obtain ⟨r', hr', rfl⟩ := List.mem_map.mp hy
      injection e with e1 e2
      have a1 : r.1 = p.1 := by
        unfold grp at hr
        obtain ⟨q, _, rfl⟩ := List.mem_map.mp hr
        rfl
      obtain ⟨q, hq, b1, _⟩ := flat_mem hr'
      exact hn.1 (List.mem_map.mpr ⟨q, hq, by rw [← b1, ← e1, a1]⟩)
theorem made_ok {hs ws : List Str} {ps : List (Str × Grp)} (nd : (hs ++ ws).Nodup) (sym : ∀ x ∈ hs ++ ws, IsSym x) (h0 : hs ≠ []) (w0 : ws ≠ []) (hl : hs.length ≤ 4) (wl : ws.length ≤ 3) (hp : ps.map (·.1) = hs) (hg : ∀ p ∈ ps, GrpOk (hs ++ ws) p.2) : GOk hs ws (flat ps) := by
  have hn : hs.Nodup := (List.nodup_append.mp nd).1
  have len : ps.length = hs.length := by rw [← hp, List.length_map]
  refine ⟨nd, sym, h0, w0, hl, wl, ?_, ?_, ?_, fun h hh => ?_, fun r hr => ?_, fun r hr => ?_, ?_⟩
  · intro z
    cases ps with
    | nil => rw [← hp] at h0; exact h0 rfl
    | cons p ps =>
      have z' : grp p.1 p.2 ++ flat ps = [] := z
      have := (List.append_eq_nil_iff.mp z').1
      unfold grp at this
      exact (hg p (by simp)).ne (List.map_eq_nil_iff.mp this)
  · have := flat_len (ps := ps) fun p hp => (hg p hp).le
    omega
  · have := heads_flat (ps := ps) (acc := []) (by rw [List.nil_append, hp]; exact hn) fun p hp => (hg p hp).ne
    rw [List.nil_append, hp] at this
    exact this
  · have := sum_flat (h := h) (t := 0) (ps := ps) (by rw [hp]; exact hn) (fun p hp => (hg p hp).one) (by rw [hp]; exact hh)
    rw [show (0 : Rat) + 1 = 1 by grind] at this
    exact this
  · obtain ⟨p, hp', _, hm⟩ := flat_mem hr
    exact (hg p hp').body _ hm
  · obtain ⟨p, hp', _, hm⟩ := flat_mem hr
    exact (hg p hp').pos _ hm
  · exact flat_prs (by rw [hp]; exact hn) fun p hp => (hg p hp).nd
inductive Live (hs : List Str) (rs : List Rule) : Str → Prop
  | mk (r : Rule) (hr : r ∈ rs) (hb : ∀ x ∈ r.2.1, x ∈ hs → Live hs rs x) : Live hs rs r.1
def okBody (hs L b : List Str) : Bool := b.all fun x => decide (x ∈ L) || !decide (x ∈ hs)
def hasBody (rs : List Rule) (hs L : List Str) (h : Str) : Bool := rs.any fun r => decide (r.1 = h) && okBody hs L r.2.1
def stepL (hs : List Str) (rs : List Rule) (L : List Str) : List Str := hs.filter (hasBody rs hs L)
open Classical in
noncomputable def liveL (hs : List Str) (rs : List Rule) : List Str := hs.filter fun h => decide (Live hs rs h)
theorem okBody_iff {hs L b : List Str} : okBody hs L b = true ↔ ∀ x ∈ b, x ∈ hs → x ∈ L := by
  unfold okBody
  rw [List.all_eq_true]
  refine forall_congr' fun x => forall_congr' fun _ => ?_
  by_cases h1 : x ∈ L <;> by_cases h2 : x ∈ hs <;> simp [h1, h2]
theorem hasBody_iff {rs : List Rule} {hs L : List Str} {h : Str} : hasBody rs hs L h = true ↔ ∃ r ∈ rs, r.1 = h ∧ ∀ x ∈ r.2.1, x ∈ hs → x ∈ L := by
  unfold hasBody
  simp only [List.any_eq_true, Bool.and_eq_true, decide_eq_true_eq, okBody_iff]
theorem stepL_mono {hs : List Str} {rs : List Rule} {L L' : List Str} (h : ∀ x ∈ L, x ∈ L') : ∀ x ∈ stepL hs rs L, x ∈ stepL hs rs L' := fun x hx => by
  unfold stepL at hx ⊢
  rw [List.mem_filter, hasBody_iff] at hx ⊢
  obtain ⟨h1, r, hr, e, hb⟩ := hx
  exact ⟨h1, r, hr, e, fun y hy hh => h y (hb y hy hh)⟩
def Stage (hs : List Str) (rs : List Rule) (L : List Str) : Prop := (∃ p : Str → Bool, L = hs.filter p) ∧ (∀ x ∈ L, x ∈ stepL hs rs L) ∧ ∀ x ∈ L, Live hs rs x
theorem stage_nil {hs : List Str} {rs : List Rule} : Stage hs rs [] := ⟨⟨fun _ => false, by simp⟩, fun x hx => by simp at hx, fun x hx => by simp at hx⟩
theorem stage_step {hs : List Str} {rs : List Rule} {L : List Str} (h : Stage hs rs L) : Stage hs rs (stepL hs rs L) := by
  refine ⟨⟨_, rfl⟩, stepL_mono h.2.1, fun x hx => ?_⟩
  unfold stepL at hx
  rw [List.mem_filter, hasBody_iff] at hx
  obtain ⟨h1, r, hr, e, hb⟩ := hx
  subst e
  exact .mk r hr fun y hy hh => h.2.2 y (hb y hy hh)
theorem filter_le {α : Type} {p q : α → Bool} : ∀ {l : List α}, (∀ x ∈ l, p x = true → q x = true) → (l.filter p).length ≤ (l.filter q).length ∧ ((l.filter q).length ≤ (l.filter p).length → l.filter p = l.filter q)
  | [], _ => by simp
  | a :: l, h => by
    have ih := filter_le (p := p) (q := q) (l := l) fun x hx => h x (List.mem_cons_of_mem _ hx)
    have ha := h a (by simp)
    cases hp : p a with
    | true =>
      rw [List.filter_cons_of_pos hp, List.filter_cons_of_pos (ha hp), List.length_cons, List.length_cons]
      exact ⟨by omega, fun z => by rw [ih.2 (by omega)]⟩
    | false =>
      rw [List.filter_cons_of_neg (by simp [hp])]
      cases hq : q a with
      | true =>
        rw [List.filter_cons_of_pos hq, List.length_cons]
        exact ⟨by omega, fun z => by omega⟩
      | false =>
        rw [List.filter_cons_of_neg (by simp [hq])]
        exact ih
theorem stage_le {hs : List Str} {rs : List Rule} {L : List Str} (h : Stage hs rs L) : L.length ≤ (stepL hs rs L).length ∧ ((stepL hs rs L).length ≤ L.length → L = stepL hs rs L) := by
  obtain ⟨⟨p, rfl⟩, h2, _⟩ := h
  refine filter_le fun x hx hp => ?_
  have := h2 x (List.mem_filter.mpr ⟨hx, hp⟩)
  unfold stepL at this
  exact (List.mem_filter.mp this).2
open Classical in
theorem stage_end {hs : List Str} {rs : List Rule} {L : List Str} (h : Stage hs rs L) (e : (stepL hs rs L).length ≤ L.length) (hh : ∀ r ∈ rs, r.1 ∈ hs) : stepL hs rs L = liveL hs rs := by
  have e' := (stage_le h).2 e
  have all : ∀ x, Live hs rs x → x ∈ L := fun x hx => by
    induction hx with
    | mk r hr _ ih =>
      rw [e']
      unfold stepL
      rw [List.mem_filter, hasBody_iff]
      exact ⟨hh r hr, r, hr, rfl, ih⟩
  unfold liveL
  rw [← e']
  obtain ⟨⟨p, hp⟩, _, h3⟩ := h
  rw [hp] at all h3 ⊢
  refine List.filter_congr fun x hx => ?_
  rw [Bool.eq_iff_iff, decide_eq_true_eq]
  exact ⟨fun q => h3 x (List.mem_filter.mpr ⟨hx, q⟩), fun q => (List.mem_filter.mp (all x q)).2⟩
theorem mem_addHead {acc : List Str} {r : Rule} {x : Str} : x ∈ addHead acc r ↔ x ∈ acc ∨ x = r.1 := by
  unfold addHead
  split
  · rename_i h
    exact ⟨.inl, fun z => z.elim id fun e => e ▸ h⟩
  · simp
theorem mem_heads : ∀ {rs : List Rule} {acc : List Str} {x : Str}, x ∈ rs.foldl addHead acc ↔ x ∈ acc ∨ ∃ r ∈ rs, x = r.1
  | [], acc, x => by simp
  | r :: rs, acc, x => by
    rw [List.foldl_cons, mem_heads, mem_addHead]
    simp only [List.mem_cons, exists_eq_or_imp, or_assoc]
theorem mem_firsts {rs : List Rule} {x : Str} : x ∈ firsts rs ↔ x ∈ rs.map (·.1) := by
  unfold firsts
  rw [mem_heads]
  simp only [List.not_mem_nil, false_or, List.mem_map]
  exact ⟨fun ⟨r, h1, h2⟩ => ⟨r, h1, h2.symm⟩, fun ⟨r, h1, h2⟩ => ⟨r, h1, h2.symm⟩⟩
end L3
set_option Elab.async false
set_option linter.all false
set_option maxRecDepth 100000
set_option maxHeartbeats 4000000
namespace L3
open PySem PySem.Spec PySem.Calls PyProof.Rows L2
section
variable {X : Cx} {B : Bs} {Γ : Ga} {Ω : Om} {a l e : Expr} {pos p2 : Pos} {R : D → Om → Prop}
theorem cut_new {F : Hp} {σ : L2.St} {H : Hp} {ds : List D} {x : V} {lo hi : Option Int} {Q : VK} (S : Sat X.K B Γ Ω F σ H) (i1 : Is X.K F (.lst ds) x) (q : ∀ v H' F', Pur F H F' H' → Is X.K F' (.lst (cutD ds lo hi)) v → Q v H') : rSlL X.K x lo hi H Q := by
  obtain ⟨b, xs, rfl, s1, j1⟩ := isLst i1
  exact ⟨b, xs, rfl, S.fh.seq s1, fun c hc => q _ _ _ (Pur.lay S.fh hc) (Is.lstI (.inl upd_same) ((cut_is j1).mono (Pur.lay S.fh hc).ff))⟩
theorem v_cutTo {ds : List D} (ha : P3 X Γ a (.lst ds)) (h : V3 X B e Γ Ω fun d Ω1 => ∃ n : Int, d = .int n ∧ R (.lst (cutD ds none (some n))) Ω1) : V3 X B (.Subscript a (.Slice none (some e) none p2) pos) Γ Ω R := fun F σ H S pins s I =>
  pe_slice sl_list ha po_none (po_some pe_w) pins s σ H _ I ⟨F, S.fh, S.sl, fun x H1 F1 p1 i1 => (h F1 σ H1 (S.pur p1)).mono fun v H2 ⟨d, Ω1, F2, S2, f2, i2, n, e2, r⟩ => by
    subst e2
    refine ⟨n, isI i2, ?_⟩
    exact cut_new (lo := none) (hi := some n) S2 (i1.mono f2) fun v' H' F' p' i' => ⟨_, Ω1, F', S2.pur p', p1.ff.trans (f2.trans p'.ff), i', r⟩⟩
theorem v_cutFromTo {ds : List D} {m : Int} (ha : P3 X Γ a (.lst ds)) (hl : P3 X Γ l (.int m)) (h : V3 X B e Γ Ω fun d Ω1 => ∃ n : Int, d = .int n ∧ R (.lst (cutD ds (some m) (some n))) Ω1) : V3 X B (.Subscript a (.Slice (some l) (some e) none p2) pos) Γ Ω R := fun F σ H S pins s I =>
  pe_slice sl_list ha (po_some hl) (po_some pe_w) pins s σ H _ I ⟨F, S.fh, S.sl, fun x H1 F1 p1 i1 => ⟨F1, p1.fh, S.sl.mono p1.ff, fun y H3 F3 p3 i3 => ⟨m, isI i3, (h F3 σ H3 (S.pur (p1.trans p3))).mono fun v H2 ⟨d, Ω1, F2, S2, f2, i2, n, e2, r⟩ => by
    subst e2
    refine ⟨n, isI i2, ?_⟩
    exact cut_new (lo := some m) (hi := some n) S2 (i1.mono (p3.ff.trans f2)) fun v' H' F' p' i' => ⟨_, Ω1, F', S2.pur p', (p1.trans p3).ff.trans (f2.trans p'.ff), i', r⟩⟩⟩⟩
end
section
variable {X : Cx} {B : Bs} {Γ : Ga} {Ω : Om} {E : E3} {rest body : List Stmt} {e c : Expr} {pos : Pos}
theorem w_exprV (h : V3 X B e Γ Ω fun _ Ω1 => W3 X B rest Γ Ω1 E) (hs : swapsWith e none pos.line X.env = pure false := by rfl) : W3 X B (.Expr e pos :: rest) Γ Ω E := fun F σ H S pins s I =>
  pss_cons (ps_expr pe_w hs) pss_w pins s σ H _ I ((h F σ H S).mono fun v H1 ⟨d, Ω1, F1, S1, f1, i1, h1⟩ => to_mono f1 (h1 F1 σ H1 S1))
theorem W3.nx {J N : Ga → Om → Prop} {sts : List Stmt} (h : W3 X B sts Γ Ω { E with nx := J }) (i : ∀ Γ Ω, J Γ Ω → N Γ Ω) : W3 X B sts Γ Ω { E with nx := N } := fun F σ H S =>
  ends_mono (D := E3.to X.K B F { E with nx := J }) (D' := E3.to X.K B F { E with nx := N }) (fun _ _ ⟨Γ', Ω', F', S', f', n⟩ => ⟨Γ', Ω', F', S', f', i _ _ n⟩) (fun _ _ q => q) (fun _ _ q => q) (fun _ _ q => q) (h F σ H S)
theorem w_if2 {k : Bool} {a b : List Stmt} (J : Ga → Om → Prop) (hc : PT3 X Γ c k) (ht : k = true → W3 X B a Γ Ω { E with nx := J }) (hf : k = false → W3 X B b Γ Ω { E with nx := J }) (hr : ∀ Γ Ω, J Γ Ω → W3 X B rest Γ Ω E) : W3 X B (.If c a b pos :: rest) Γ Ω E :=
  w_if hc (fun h => (ht h).nx hr) fun h => (hf h).nx hr
theorem w_ifV2 {a b : List Stmt} (J : Ga → Om → Prop) (h : VT3 X B c Γ Ω fun k Ω1 => (k = true → W3 X B a Γ Ω1 { E with nx := J }) ∧ (k = false → W3 X B b Γ Ω1 { E with nx := J })) (hr : ∀ Γ Ω, J Γ Ω → W3 X B rest Γ Ω E) : W3 X B (.If c a b pos :: rest) Γ Ω E :=
  w_ifV fun F σ H S => (h F σ H S).mono fun k H' ⟨Ω', F', S', f', h1, h2⟩ => ⟨Ω', F', S', f', fun q => (h1 q).nx hr, fun q => (h2 q).nx hr⟩
theorem ts_is {k k' : Bool} (h : PT3 X Γ c k) (q : k = k') : PTs3 X Γ [c] k' := q ▸ ts_one h
end
def bodyD (b : List Str) : D := .tup (b.map D.str)
def ruleD (r : Rule) : D := .tup [.str r.1, bodyD r.2.1, sh r.2.2]
def strsD (xs : List Str) : List D := xs.map D.str
def rulesD (rs : List Rule) : List D := rs.map ruleD
theorem strsD_len {xs : List Str} : (strsD xs).length = xs.length := List.length_map _
theorem rulesD_len {rs : List Rule} : (rulesD rs).length = rs.length := List.length_map _
theorem strsD_get {xs : List Str} {i : Nat} {d : D} (h : (strsD xs)[i]? = some d) : ∃ x, xs[i]? = some x ∧ d = .str x := by
  unfold strsD at h
  rw [List.getElem?_map] at h
  obtain ⟨x, h1, h2⟩ := Option.map_eq_some_iff.mp h
  exact ⟨x, h1, h2.symm⟩
theorem rulesD_get {rs : List Rule} {i : Nat} {d : D} (h : (rulesD rs)[i]? = some d) : ∃ r, rs[i]? = some r ∧ d = ruleD r := by
  unfold rulesD at h
  rw [List.getElem?_map] at h
  obtain ⟨x, h1, h2⟩ := Option.map_eq_some_iff.mp h
  exact ⟨x, h1, h2.symm⟩
theorem take_get {α : Type} {l : List α} {i : Nat} {x : α} (h : l[i]? = some x) : l.take (i + 1) = l.take i ++ [x] := by
  rw [List.take_succ, h]; rfl
theorem str_inj {x y : Str} (h : D.str x = D.str y) : x = y := by injection h
theorem beq_str {x y : Str} : beqD (.str x) (.str y) = decide (x = y) := by
  by_cases h : x = y
  · subst h
    rw [beqD_refl (by rfl)]
    simp
  · rw [beqD_ne (fun z => h (str_inj z)), decide_eq_false h]
theorem in_strs {x : Str} {L : List Str} : inD (.str x) (strsD L) = decide (x ∈ L) := by
  unfold inD strsD
  rw [List.any_map, Bool.eq_iff_iff, List.any_eq_true, decide_eq_true_eq]
  constructor
  · rintro ⟨y, hy, e⟩
    have e' : beqD (.str y) (.str x) = true := e
    rw [beq_str, decide_eq_true_eq] at e'
    exact e' ▸ hy
  · intro h
    exact ⟨x, h, by show beqD (.str x) (.str x) = true; rw [beq_str]; simp⟩
theorem strs_kin {x : Str} {L : List Str} : ∀ e ∈ strsD L, kin e (.str x) = true ∧ dep e ≤ 60 := fun e he => by
  unfold strsD at he
  obtain ⟨y, _, rfl⟩ := List.mem_map.mp he
  exact ⟨rfl, Nat.zero_le _⟩
theorem str_map_inj : ∀ {a b : List Str}, a.map D.str = b.map D.str → a = b
  | [], [], _ => rfl
  | [], _ :: _, h => by simp at h
  | _ :: _, [], h => by simp at h
  | x :: a, y :: b, h => by
    simp only [List.map_cons, List.cons.injEq, D.str.injEq] at h
    rw [h.1, str_map_inj h.2]
theorem body_inj {a b : List Str} (h : bodyD a = bodyD b) : a = b := by
  unfold bodyD at h
  injection h with h
  exact str_map_inj h
theorem pln_strs {L : List Str} : plnL (L.map D.str) = true := plnL_all fun d hd => by
  obtain ⟨y, _, rfl⟩ := List.mem_map.mp hd
  rfl
theorem pln_body {b : List Str} : pln (bodyD b) = true := by unfold bodyD; rw [pln]; exact pln_strs
theorem beq_body {a b : List Str} : beqD (bodyD a) (bodyD b) = decide (a = b) := by
  by_cases h : a = b
  · subst h
    rw [beqD_refl pln_body]
    simp
  · rw [beqD_ne (fun z => h (body_inj z)), decide_eq_false h]
theorem kins_strs : ∀ {a b : List Str}, kins (a.map D.str) (b.map D.str) = true
  | [], _ => by simp [kins]
  | _ :: _, [] => by simp [kins]
  | x :: a, y :: b => by
    rw [List.map_cons, List.map_cons, kins, kins_strs]
    rfl
theorem kin_body {a b : List Str} : kin (bodyD a) (bodyD b) = true := by unfold bodyD; rw [kin]; exact kins_strs
theorem dep_strs {b : List Str} : depL (b.map D.str) = 0 := Nat.le_zero.mp (depL_le fun d hd => by
  obtain ⟨y, _, rfl⟩ := List.mem_map.mp hd
  exact Nat.le_refl 0)
theorem dep_body {b : List Str} : dep (bodyD b) ≤ 1 := by unfold bodyD; rw [dep, dep_strs]; exact Nat.le_refl _
theorem in_bodies {b : List Str} {bs : List (List Str)} : inD (bodyD b) (bs.map bodyD) = decide (b ∈ bs) := by
  unfold inD
  rw [List.any_map, Bool.eq_iff_iff, List.any_eq_true, decide_eq_true_eq]
  constructor
  · rintro ⟨y, hy, e⟩
    have e' : beqD (bodyD y) (bodyD b) = true := e
    rw [beq_body, decide_eq_true_eq] at e'
    exact e' ▸ hy
  · intro h
    exact ⟨b, h, by show beqD (bodyD b) (bodyD b) = true; rw [beq_body]; simp⟩
theorem bodies_kin {b : List Str} {bs : List (List Str)} : ∀ e ∈ bs.map bodyD, kin e (bodyD b) = true ∧ dep e ≤ 60 := fun e he => by
  obtain ⟨y, _, rfl⟩ := List.mem_map.mp he
  have := dep_body (b := y)
  exact ⟨kin_body, by omega⟩
theorem solid_strs {L : Bool} : ∀ {xs : List Str}, solids L (strsD xs) = true
  | [] => rfl
  | x :: xs => by
    show (solid L (D.str x) && solids L (strsD xs)) = true
    rw [solid_strs]
    rfl
def keyR (r : Rule) : List K2 := [.inl (.inr r.1), .inr (r.2.1.map Sum.inr)]
theorem keyR_eq (r : Rule) : D.tup [.str r.1, bodyD r.2.1] = kD (keyR r) := by
  unfold kD keyR bodyD
  simp only [List.map_cons, List.map_nil, k2D, keyD, List.map_map]
  rfl
theorem inr_inj : ∀ {a b : List Str}, a.map (Sum.inr : Str → Key) = b.map Sum.inr → a = b
  | [], [], _ => rfl
  | [], _ :: _, h => by simp at h
  | _ :: _, [], h => by simp at h
  | x :: a, y :: b, h => by
    simp only [List.map_cons, List.cons.injEq, Sum.inr.injEq] at h
    rw [h.1, inr_inj h.2]
theorem keyR_inj {r s : Rule} (h : keyR r = keyR s) : (r.1, r.2.1) = (s.1, s.2.1) := by
  unfold keyR at h
  simp only [List.cons.injEq, Sum.inl.injEq, Sum.inr.injEq, and_true] at h
  rw [h.1, inr_inj h.2]
def seenD (rs : List Rule) : List (List K2 × D) := rs.map fun r => (keyR r, .bl true)
theorem seen_not {rs : List Rule} {r : Rule} (h : (r.1, r.2.1) ∉ rs.map fun r => (r.1, r.2.1)) : atD (seenD rs) (keyR r) = none := by
  unfold atD seenD
  rw [Option.map_eq_none_iff, List.find?_eq_none]
  intro p hp
  obtain ⟨q, hq, rfl⟩ := List.mem_map.mp hp
  simp only [decide_eq_true_eq]
  intro z
  exact h (List.mem_map.mpr ⟨q, hq, keyR_inj z⟩)
theorem seen_put {rs : List Rule} {r : Rule} (h : (r.1, r.2.1) ∉ rs.map fun r => (r.1, r.2.1)) : putD (seenD rs) (keyR r) (.bl true) = seenD (rs ++ [r]) := by
  unfold putD
  rw [seen_not h]
  unfold seenD
  rw [List.map_append]
  rfl
theorem nodup_take {α β : Type} {f : α → β} {l : List α} {i : Nat} {x : α} (hn : (l.map f).Nodup) (h : l[i]? = some x) : f x ∉ (l.take i).map f := fun z => by
  obtain ⟨y, hy, e⟩ := List.mem_map.mp z
  obtain ⟨j, hj, rfl⟩ := List.getElem_of_mem hy
  rw [List.length_take] at hj
  have hj1 : j < l.length := by omega
  have hi : i < l.length := (List.getElem?_eq_some_iff.mp h).1
  rw [List.getElem_take] at e
  have e1 : (l.map f)[j]? = (l.map f)[i]? := by
    rw [List.getElem?_map, List.getElem?_map, h, List.getElem?_eq_getElem hj1]
    simp [e]
  have := (List.getElem?_inj (by rw [List.length_map]; exact hj1) hn).mp e1
  omega
theorem p_chainI2 {X : Cx} {Γ : Ga} {a b c : Expr} {pos : Pos} {i j k : Int} (ha : P3 X Γ a (.int i)) (hb : P3 X Γ b (.int j)) (hc : P3 X Γ c (.int k)) (hm : lastMarks [.LtE, .LtE] [b, c] = false := by with_unfolding_all rfl) : P3 X Γ (.Compare a [.LtE, .LtE] [b, c] pos) (.bl (decide (i ≤ j) && decide (j ≤ k))) :=
  PE.of (pe_chain op_le op_le ha hb hc hm) fun σ H Q zq => by
    obtain ⟨F, fh, sl, q⟩ := zq
    refine ⟨F, fh, sl, fun v1 H1 F1 p1 i1 => ⟨F1, p1.fh, sl.mono p1.ff, fun v2 H2 F2 p2 i2 => ⟨i, j, isI i1, isI i2, decide (i ≤ j), rfl, ?_⟩⟩⟩
    cases e : decide (i ≤ j) with
    | true =>
      rw [if_pos rfl]
      exact ⟨F2, p2.fh, sl.mono (p1.ff.trans p2.ff), fun v3 H3 F3 p3 i3 => ⟨j, k, isI i2, isI i3, q _ _ _ ((p1.trans p2).trans p3) (by rw [e]; exact i_bl F3)⟩⟩
    | false =>
      rw [if_neg Bool.false_ne_true]
      exact q _ _ _ (p1.trans p2) (by rw [e]; exact i_bl F2)
open Classical in
noncomputable def isSymB (x : Str) : Bool := decide (IsSym x)
theorem isSymB_iff {x : Str} : isSymB x = true ↔ IsSym x := @decide_eq_true_iff _ (Classical.propDecidable _)
noncomputable def C_isSym : List D → D → Prop := fun ds d => ∃ x : Str, ds = [.str x] ∧ d = .bl (isSymB x) ∧ x.cps.size ≤ 100 ∧ x.cps.all (· < 128) = true
def C_letter : List D → D → Prop := fun ds d => ∃ c : Nat, ds = [.str ⟨#[c]⟩] ∧ d = .bl (isLet c)
def C_symbol : List D → D → Prop := fun ds d => ∃ x : Str, ds = [.str x] ∧ d = .non ∧ IsSym x
def RuleOk (r : Rule) : Prop := IsSym r.1 ∧ 1 ≤ r.2.1.length ∧ r.2.1.length ≤ 4 ∧ (∀ x ∈ r.2.1, IsSym x) ∧ 0 < r.2.2
def C_rule : List D → D → Prop := fun ds d => ∃ r : Rule, ds = [ruleD r] ∧ d = .non ∧ RuleOk r
def C_rules : List D → D → Prop := fun ds d => ∃ rs : List Rule, ds = [.lst (rulesD rs)] ∧ d = .non ∧ 1 ≤ rs.length ∧ rs.length ≤ 30 ∧ (∀ r ∈ rs, RuleOk r) ∧ (rs.map fun r => (r.1, r.2.1)).Nodup
def C_start : List D → D → Prop := fun ds d => ∃ (x : Str) (hs : List Str), ds = [.str x, .lst (strsD hs)] ∧ d = .non ∧ x ∈ hs
def C_sums : List D → D → Prop := fun ds d => ∃ (hs : List Str) (rs : List Rule), ds = [.lst (strsD hs), .lst (rulesD rs)] ∧ d = .non ∧ rs.length ≤ 30 ∧ (∀ h ∈ hs, sumOf h rs = 1) ∧ ∀ r ∈ rs, 0 ≤ r.2.2 ∧ Sz 1000 r.2.2
def C_heads : List D → D → Prop := fun ds d => ∃ rs : List Rule, ds = [.lst (rulesD rs)] ∧ d = .lst (strsD (firsts rs)) ∧ rs.length ≤ 30
def C_liveOf : List D → D → Prop := fun ds d => ∃ (hs : List Str) (rs : List Rule), ds = [.lst (strsD hs), .lst (rulesD rs)] ∧ d = .lst (strsD (liveL hs rs)) ∧ rs.length ≤ 30 ∧ hs.length ≤ 30 ∧ (∀ r ∈ rs, r.1 ∈ hs) ∧ ∀ r ∈ rs, r.2.1.length ≤ 4
def C_hasLive : List D → D → Prop := fun ds d => ∃ (h : Str) (rs : List Rule) (hs L : List Str), ds = [.str h, .lst (rulesD rs), .lst (strsD hs), .lst (strsD L)] ∧ d = .bl (hasBody rs hs L h) ∧ rs.length ≤ 30 ∧ ∀ r ∈ rs, r.2.1.length ≤ 4
def C_liveBody : List D → D → Prop := fun ds d => ∃ b hs L : List Str, ds = [bodyD b, .lst (strsD hs), .lst (strsD L)] ∧ d = .bl (okBody hs L b) ∧ b.length ≤ 4
def gF : List Str := ["first", "kept_rules", "kept_heads", "kept_live"]
noncomputable def gDs (st : Str) (rs : List Rule) : List D := [.str st, .lst (rulesD rs), .lst (strsD (firsts rs)), .lst (strsD (liveL (firsts rs) rs))]
noncomputable def gD (C : Addr) (st : Str) (rs : List Rule) : D := .obj C gF (gDs st rs)
structure GV (st : Str) (rs : List Rule) : Prop where
  l1 : 1 ≤ rs.length
  l2 : rs.length ≤ 30
  ok : ∀ r ∈ rs, RuleOk r
  nd : (rs.map fun r => (r.1, r.2.1)).Nodup
  st : st ∈ firsts rs
  one : ∀ h ∈ firsts rs, sumOf h rs = 1
  sz : ∀ r ∈ rs, Sz 1000 r.2.2
def C_makes : List D → List Str × List D → Prop := fun ds r => ∃ (st : Str) (rs : List Rule), ds = [.str st, .lst (rulesD rs)] ∧ r = (gF, gDs st rs) ∧ GV st rs
def C_gRules (C : Addr) : List D → List D → Prop := fun ds d => ∃ (st : Str) (rs : List Rule), ds = [gD C st rs] ∧ d = rulesD rs
def C_gHeads (C : Addr) : List D → List D → Prop := fun ds d => ∃ (st : Str) (rs : List Rule), ds = [gD C st rs] ∧ d = strsD (firsts rs)
theorem nm_Grammar_rules : ("rules" : Str) ∉ gF := by decide +kernel
theorem nm_Grammar_heads : ("heads" : Str) ∉ gF := by decide +kernel
structure ClsG (K : PySem.W.Frag) (C : Addr) : Prop where
  c : Cls K C
  n_first : NoAttr K C "first"
  n_kept_rules : NoAttr K C "kept_rules"
  n_kept_heads : NoAttr K C "kept_heads"
  n_kept_live : NoAttr K C "kept_live"
theorem heads_len : ∀ {rs : List Rule} {acc : List Str}, (rs.foldl addHead acc).length ≤ acc.length + rs.length
  | [], acc => by simp
  | r :: rs, acc => by
    have := heads_len (rs := rs) (acc := addHead acc r)
    rw [List.foldl_cons, List.length_cons]
    have : (addHead acc r).length ≤ acc.length + 1 := by
      unfold addHead
      split
      · omega
      · rw [List.length_append]; exact Nat.le_refl _
    omega
theorem firsts_len {rs : List Rule} : (firsts rs).length ≤ rs.length := by
  have := heads_len (rs := rs) (acc := [])
  unfold firsts
  simpa using this
theorem solid_lstrs {xs : List Str} : solid true (.lst (strsD xs)) = true := by
  rw [solid, solid_strs]
  rfl
theorem dep_lstrs {xs : List Str} : dep (.lst (strsD xs)) ≤ 60 := by
  rw [dep]
  unfold strsD
  rw [dep_strs]
  decide
theorem GOk.gv {hs ws : List Str} {rs : List Rule} (g : GOk hs ws rs) {st : Str} (h : st ∈ hs) : GV st rs where
  l1 := List.length_pos_iff.mpr g.r0
  l2 := by have := g.rl; omega
  ok := fun r hr => ⟨g.sym _ (List.mem_append_left _ (by rw [← g.fst, mem_firsts]; exact List.mem_map.mpr ⟨r, hr, rfl⟩)), (g.body r hr).1, (g.body r hr).2.1, fun x hx => g.sym x ((g.body r hr).2.2 x hx), (g.pos r hr).1⟩
  nd := g.prs
  st := by rw [g.fst]; exact h
  one := fun h hh => g.one h (by rw [← g.fst]; exact hh)
  sz := fun r hr => Sz.mono (m := 5) ⟨(g.pos r hr).2.1, (g.pos r hr).2.2⟩ (by omega)
theorem leS_l {c n : Nat} {x : Str} (h : x.cps.toList = [n]) : leS x ⟨#[c]⟩ = decide (n ≤ c) := by
  unfold leS
  rw [h, Bool.eq_iff_iff]
  simp [List.cons_lt_cons_iff]
theorem leS_r {c n : Nat} {x : Str} (h : x.cps.toList = [n]) : leS ⟨#[c]⟩ x = decide (c ≤ n) := by
  unfold leS
  rw [h, Bool.eq_iff_iff]
  simp [List.cons_lt_cons_iff]
theorem let_ascii {c : Nat} (h : isLet c = true) : c < 128 := by
  unfold isLet at h
  simp at h
  omega
theorem sym_ascii {x : Str} (h : IsSym x) : x.cps.all (· < 128) = true := by
  rw [Array.all_eq_true_iff_forall_mem]
  intro c hc
  simpa using let_ascii (h.2.2 c (by simpa using hc))
theorem signs_get {x : Str} {i : Nat} {d : D} (h : (signs x)[i]? = some d) : ∃ c, x.cps.toList[i]? = some c ∧ d = .str ⟨#[c]⟩ := by
  unfold signs at h
  rw [List.getElem?_map] at h
  obtain ⟨c, h1, h2⟩ := Option.map_eq_some_iff.mp h
  exact ⟨c, h1, h2.symm⟩
theorem signs_len {x : Str} : (signs x).length = x.cps.size := by unfold signs; simp
theorem sz_sumI {t q : Rat} {i : Nat} (ht : 0 ≤ t ∧ Sz (1 + i * 1001) t) (hq : 0 ≤ q ∧ Sz 1000 q) : 0 ≤ t + q ∧ Sz (1 + (i + 1) * 1001) (t + q) := ⟨q_nn_add ht.1 hq.1, (sz_add ht.2 hq.2).mono (by omega)⟩
end L3
namespace L3
open PySem PySem.Spec PySem.Calls PyProof.Rows L2
theorem clsG_mk {K : PySem.W.Frag} {C : Addr} (pg : PySem.W.plainGet K C Str.empty = true) (hd : PySem.W.hasDictIn K C = true) (po : PySem.W.plainOver K C = true) (sa : PySem.W.findIn K (.ref C) "__setattr__" = some (some (.builtin "object.__setattr__")))
    (n1 : PySem.W.findIn K (.ref C) "first" = some none) (n2 : PySem.W.findIn K (.ref C) "kept_rules" = some none) (n3 : PySem.W.findIn K (.ref C) "kept_heads" = some none) (n4 : PySem.W.findIn K (.ref C) "kept_live" = some none) : ClsG K C := ⟨⟨pg, hd, po, sa⟩, n1, n2, n3, n4⟩
theorem globInt {K : PySem.W.Frag} {h : Heap} {mg : Str → Option Value} (X : K.In h) (G : h.Ns mainGlobals mg) {x : Str} {i : Int} {t : Tok} (a : PySem.W.nsIn K mainGlobals x = some (some (.int i t))) : GlobD K mg x (.int i) :=
  ⟨.int i, .int i t, PySem.W.mg_of X G a, ⟨t, rfl⟩, fun F => i_int F⟩
end L3
set_option Elab.async false
set_option linter.all false
set_option maxRecDepth 100000
set_option maxHeartbeats 4000000
namespace L3
open PySem PySem.Spec PySem.Calls PyProof.Rows L2
def C_symbols : List D → D → Prop := fun ds d => ∃ (c : Int) (m : Nat), ds = [.int c, .int (m : Int)] ∧ d = .lst (strsD ((List.range m).map (symS c))) ∧ m ≤ 20
def BodyOk (sy b : List Str) : Prop := 1 ≤ b.length ∧ b.length ≤ 4 ∧ ∀ x ∈ b, x ∈ sy
def BodiesOk (sy : List Str) (bs : List (List Str)) : Prop := bs ≠ [] ∧ bs.length ≤ 3 ∧ bs.Nodup ∧ ∀ b ∈ bs, BodyOk sy b
def C0_bodies : List D → Prop := fun ds => ∃ (hs ws : List Str) (f : Bool), ds = [.lst (strsD hs), .lst (strsD ws), .bl f] ∧ ws ≠ [] ∧ hs.length ≤ 4 ∧ ws.length ≤ 3
def C_bodies : List D → D → Prop := fun ds d => ∃ (hs ws : List Str) (f : Bool) (bs : List (List Str)), ds = [.lst (strsD hs), .lst (strsD ws), .bl f] ∧ d = .lst (bs.map bodyD) ∧ BodiesOk (hs ++ ws) bs
def C0_lrules : List D → Prop := fun ds => ∃ hs ws : List Str, ds = [.lst (strsD hs), .lst (strsD ws)] ∧ ws ≠ [] ∧ hs.length ≤ 4 ∧ ws.length ≤ 3
def C_lrules : List D → D → Prop := fun ds d => ∃ (hs ws : List Str) (ps : List (Str × Grp)), ds = [.lst (strsD hs), .lst (strsD ws)] ∧ d = .lst (rulesD (flat ps)) ∧ ps.map (·.1) = hs ∧ ∀ p ∈ ps, GrpOk (hs ++ ws) p.2
def spMade (K : PySem.W.Frag) : Sp := fun vs H Q _ => ∃ (c o : Int) (m : Nat) (F : Hp), vs = [.int c, .int o, .int (m : Int)] ∧ 1 ≤ m ∧ m ≤ 4 ∧ Same F H ∧
  ∀ (hs ws : List Str) (rs : List Rule), GOk hs ws rs → hs.length ≤ m → ∀ (v : V) (H' F' : Hp), Pur F H F' H' → Is K F' (.tup [.lst (strsD hs), .lst (strsD ws), .lst (rulesD rs)]) v → Q v H'
theorem spMade.len {K : PySem.W.Frag} {vs : List V} {H : Hp} {Q : VK} {E : XK} (h : spMade K vs H Q E) : vs.length = 3 := by
  obtain ⟨c, o, m, F, rfl, _⟩ := h
  rfl
theorem v_made {X : Cx} {B : Bs} {Γ : Ga} {Ω : Om} {x : Str} {ps : List Str} {k : Nat} {a b c : Expr} {p pos : Pos} {i j : Int} {m : Nat} {R : D → Om → Prop} (o : OkF X.prog X.w X.K X.mg X.base CX0 k x ps (spMade X.K)) (hr : Room k X.A) (hg : Gl X x) (ha : P3 X Γ a (.int i)) (hb : P3 X Γ b (.int j)) (hc : P3 X Γ c (.int (m : Int))) (h1 : 1 ≤ m) (h2 : m ≤ 4)
    (h : ∀ hs ws rs, GOk hs ws rs → hs.length ≤ m → R (.tup [.lst (strsD hs), .lst (strsD ws), .lst (rulesD rs)]) Ω) (hdb : (x == ("__debug__" : Str)) = false := by decide)
    (he : starEach [a, b, c] X.env = (false, eval a X.env) :: starEach [b, c] X.env := by rfl) (he2 : starEach [b, c] X.env = (false, eval b X.env) :: starEach [c] X.env := by rfl) (he3 : starEach [c] X.env = (false, eval c X.env) :: starEach [] X.env := by rfl) (hpl : (backTo pos (starEach [b, c] X.env)).any (·.1) = false := by rfl) : V3 X B (.Call (.Name x p) [a, b, c] [] pos) Γ Ω R := fun F σ H S pins s I =>
  pe_fn o hr hg (pl_cons ha (pl_cons hb (pl_cons hc pl_nil he3) he2) he) hdb he hpl pins s σ H _ I ⟨F, S.fh, S.sl, fun vs H' F' pu i => by
    dsimp only
    rw [List.append_nil]
    simp only [IsL] at i
    obtain ⟨x1, r1, rfl, i1, x2, r2, rfl, i2, x3, r3, rfl, i3, rfl⟩ := i
    cases isI i1
    cases isI i2
    cases isI i3
    exact ⟨_, _, m, F', rfl, h1, h2, pu.fh, fun hs ws rs g hl v H2 F2 p2 iv => ⟨_, Ω, F2, S.pur (pu.trans p2), pu.ff.trans p2.ff, iv, h hs ws rs g hl⟩⟩⟩
theorem ok_made {P : Program} {w : World} {K : PySem.W.Frag} {mg : Str → Option Value} {base : Heap} {x : Str} {st : Stmt} {N ps : List Str} {k : Nat} (d : DefK K mg x st ps) (S : FnScope N ps (defScope st)) (hn : ps.length = 3)
    (body : ∀ (f : Addr) (cdv : Value) (A : Around) (outer : List Env) (s : Shared) (H : Hp) (E : XK), Room k (A.deeper (envOfC x (defScope st) s.heap.objs.size f cdv)) → ∀ (c o : Int) (m : Nat), 1 ≤ m → m ≤ 4 → ∀ B : Bs, B.M = [] →
      W3 (cx0 P w K mg base N x st f cdv A outer s H E) B (defBody st) (startG N [.int c, .int o, .int (m : Int)]) [] ⟨fun _ _ => False, fun r _ => ∃ hs ws rs, GOk hs ws rs ∧ hs.length ≤ m ∧ r = .tup [.lst (strsD hs), .lst (strsD ws), .lst (rulesD rs)], fun _ _ => False, fun _ _ => False⟩) : OkF P w K mg base CX0 (k + 1) x ps (spMade K) := by
  refine d.ok S (fun vs H Q E h => (spMade.len h).trans hn.symm) fun f cdv A outer s H vs Q E hr h => ⟨_, pss_w, ?_⟩
  obtain ⟨c, o, m, F, rfl, h1, h2, fh, q⟩ := h
  have il : IsL K F [.int c, .int o, .int (m : Int)] [.int c, .int o, .int (m : Int)] := IsL.cons (i_int F) (IsL.cons (i_int F) (IsL.cons (i_int F) IsL.nil))
  refine ends_mono (D := E3.to K ⟨[], F, H⟩ F ⟨fun _ _ => False, fun r _ => ∃ hs ws rs, GOk hs ws rs ∧ hs.length ≤ m ∧ r = .tup [.lst (strsD hs), .lst (strsD ws), .lst (rulesD rs)], fun _ _ => False, fun _ _ => False⟩) (D' := { nx := fun _ H' => Q .non H', rt := Q }) ?_ ?_ ?_ ?_ (body f cdv A outer s H E hr c o m h1 h2 ⟨[], F, H⟩ rfl F _ H (Sat.entry fh il))
  · rintro σ' H' ⟨_, _, _, _, _, z⟩
    exact z.elim
  · rintro v H' ⟨r, Ω', F', ⟨σ', S'⟩, f', iv, hs, ws, rs, g, hl, rfl⟩
    exact q hs ws rs g hl v H' F' (S'.toPur rfl) iv
  · rintro σ' H' ⟨_, _, _, _, _, z⟩
    exact z.elim
  · rintro σ' H' ⟨_, _, _, _, _, z⟩
    exact z.elim
theorem cut_mid {ds : List D} {m n : Nat} (h : n ≤ ds.length) (hm : m ≤ ds.length) : cutD ds (some (m : Int)) (some (n : Int)) = (ds.drop m).take (n - m) := by
  unfold cutD
  rw [show HT.sIx ds.length 0 (some (m : Int)) = m from sIx_nat' hm, show HT.sIx ds.length ds.length (some (n : Int)) = n from sIx_nat' h]
theorem strs_take {xs : List Str} {n : Nat} : (strsD xs).take n = strsD (xs.take n) := by unfold strsD; rw [List.map_take]
theorem strs_drop {xs : List Str} {n : Nat} : (strsD xs).drop n = strsD (xs.drop n) := by unfold strsD; rw [List.map_drop]
theorem grp_ok {sy : List Str} {bs : List (List Str)} {ns : List Int} (hb : BodiesOk sy bs) (hl : ns.length = bs.length) (hn : ∀ x ∈ ns, 1 ≤ x ∧ x ≤ 5) : GrpOk sy ((bs.zip ns).map fun p => (p.1, Rat.divInt p.2 ns.sum)) := by
  obtain ⟨h1, h2, h3, h4⟩ := hb
  have hs : ∀ {l : List Int}, (∀ x ∈ l, 1 ≤ x ∧ x ≤ 5) → (l.length : Int) ≤ l.sum ∧ l.sum ≤ 5 * l.length := by
    intro l
    induction l with
    | nil => intro _; simp
    | cons a l ih =>
      intro h
      have a1 := h a (by simp)
      have a2 := ih fun x hx => h x (List.mem_cons_of_mem _ hx)
      rw [List.sum_cons, List.length_cons]
      omega
  have b0 : 0 < bs.length := List.length_pos_iff.mpr h1
  have hw := hs hn
  have w0 : 0 < ns.sum := by omega
  refine ⟨?_, ?_, ?_, ?_, fun p hp => ?_, fun p hp => ?_⟩
  · intro z
    have := congrArg List.length z
    rw [List.length_map, List.length_zip, List.length_nil] at this
    omega
  · rw [List.length_map, List.length_zip]; omega
  · rw [List.map_map, show ((fun x : List Str × Rat => x.1) ∘ fun p : List Str × Int => (p.1, Rat.divInt p.2 ns.sum)) = Prod.fst from rfl, List.map_fst_zip (by omega)]
    exact h3
  · rw [List.map_map, show ((fun x : List Str × Rat => x.2) ∘ fun p : List Str × Int => (p.1, Rat.divInt p.2 ns.sum)) = (fun n => Rat.divInt n ns.sum) ∘ Prod.snd from rfl, ← List.map_map, List.map_snd_zip (by omega)]
    have go : ∀ {l : List Int}, (l.map fun n => Rat.divInt n ns.sum).sum = Rat.divInt l.sum ns.sum := by
      intro l
      induction l with
      | nil => simp [Rat.zero_divInt]
      | cons a l ih =>
        rw [List.map_cons, List.sum_cons, List.sum_cons, ih, Rat.divInt_add_divInt _ _ (by omega) (by omega), ← Int.add_mul, Rat.divInt_mul_right (by omega)]
    rw [go]
    exact Rat.divInt_self' (by omega)
  · obtain ⟨q, hq, rfl⟩ := List.mem_map.mp hp
    exact h4 q.1 (List.of_mem_zip hq).1
  · obtain ⟨q, hq, rfl⟩ := List.mem_map.mp hp
    have a := hn q.2 (List.of_mem_zip hq).2
    have z := sz_divInt (n := 5) w0 (show q.2.natAbs < 2 ^ 5 by omega) (show ns.sum.natAbs < 2 ^ 5 by omega)
    refine ⟨?_, z.1, z.2⟩
    refine Rat.lt_of_le_of_ne (Rat.divInt_nonneg (by omega) (by omega)) fun z => ?_
    have z : 0 = Rat.divInt q.2 ns.sum := z
    have e := My.q_cross (t := q.2) w0
    rw [← z, show (0 : Rat).num = 0 from rfl, show (0 : Rat).den = 1 from rfl] at e
    omega
end L3
namespace L3
open PySem PySem.Spec PySem.Calls PyProof.Rows L2
theorem catT_read {X : Cx} {ds es : List D} (hz : ds.length + es.length ≤ sizeLine) : ∀ (x y : V) (H F : Hp) (Q : VK), Same F H → Is X.K F (.tup ds) x → Is X.K F (.tup es) y → (∀ v H' F', Pur F H F' H' → Is X.K F' (.tup (ds ++ es)) v → Q v H') → rCatT3 X.K x y H Q := fun x y H F Q fh i1 i2 k => by
  obtain ⟨l, xs, rfl, s1, j1⟩ := isT i1
  obtain ⟨l2, ys, rfl, s2, j2⟩ := isT i2
  have e1 := j1.len
  have e2 := j2.len
  refine ⟨l, l2, xs, ys, rfl, rfl, same_tup fh s1, same_tup fh s2, by rw [e1, e2]; exact hz, fun z => ?_, fun z => ?_, fun q hq => k _ _ _ (Pur.lay fh hq) (Is.tupI (.inl (.inl upd_same)) ((j1.append j2).mono (Pur.lay fh hq).ff))⟩
  · have : ds = [] := List.length_eq_zero_iff.mp (by rw [← e1, z]; rfl)
    subst this
    exact k _ _ _ (Pur.refl fh) (Is.tupI s2 j2)
  · have : es = [] := List.length_eq_zero_iff.mp (by rw [← e2, z]; rfl)
    subst this
    rw [List.append_nil] at k
    exact k _ _ _ (Pur.refl fh) (Is.tupI s1 j1)
theorem rng_lt {n i : Nat} {d : D} (h : (rngD 0 n)[i]? = some d) : i < n ∧ d = .int (i : Int) := by
  unfold rngD at h
  have hi : i < n := by
    have := (List.getElem?_eq_some_iff.mp h).1
    simpa using this
  rw [List.getElem?_map, List.getElem?_range hi] at h
  refine ⟨hi, ?_⟩
  have h' : D.int (0 + (i : Int)) = d := by simpa using h
  rw [← h', Int.zero_add]
theorem rng_len {n : Nat} : (rngD 0 n).length = n := by unfold rngD; simp
theorem sizes6 {r : Int} (h1 : 0 ≤ r) (h2 : r < 6) : ∃ w : Int, 0 ≤ w ∧ w ≤ 3 ∧ atI [D.int 0, .int 1, .int 1, .int 2, .int 0, .int 3] r = some (.int w) := by
  have : r = 0 ∨ r = 1 ∨ r = 2 ∨ r = 3 ∨ r = 4 ∨ r = 5 := by omega
  rcases this with rfl | rfl | rfl | rfl | rfl | rfl <;> exact ⟨_, by decide, by decide, rfl⟩
theorem pick {so : List Str} {r : Int} (h1 : 0 ≤ r) (h2 : r < so.length) : ∃ x ∈ so, atI (strsD so) r = some (.str x) := by
  obtain ⟨k, rfl⟩ := Int.eq_ofNat_of_zero_le h1
  have hk : k < so.length := by omega
  refine ⟨so[k], List.getElem_mem hk, atI_nat ?_⟩
  unfold strsD
  rw [List.getElem?_map, List.getElem?_eq_getElem hk]
  rfl
theorem atI_let {c : Int} {k p : Nat} (q : Int) (h : q = (stp c k p : Nat)) : atI letS.cps.toList (q % 52) = some (lt (stp c k p % 52)) := by
  have e : q % 52 = ((stp c k p % 52 : Nat) : Int) := by omega
  rw [e]
  exact atI_nat (letS_get ⟨stp c k p % 52, Nat.mod_lt _ (by decide)⟩)
end L3
namespace L3
open PySem PySem.Spec PySem.Calls PyProof.Rows L2
theorem zipBN_get {bs : List (List Str)} {ns : List Int} {j : Nat} {d : D} (h : (zipD (bs.map bodyD) (ns.map D.int))[j]? = some d) : ∃ b n, (bs.zip ns)[j]? = some (b, n) ∧ d = .tup [bodyD b, .int n] := by
  unfold zipD at h
  rw [List.zip_map, List.map_map, List.getElem?_map] at h
  obtain ⟨p, h1, h2⟩ := Option.map_eq_some_iff.mp h
  exact ⟨p.1, p.2, h1, h2.symm⟩
theorem zipBN_len {bs : List (List Str)} {ns : List Int} : (zipD (bs.map bodyD) (ns.map D.int)).length = (bs.zip ns).length := by
  unfold zipD
  rw [List.zip_map, List.map_map, List.length_map]
theorem sum_ge : ∀ {l : List Int}, (∀ x ∈ l, 1 ≤ x ∧ x ≤ 5) → (l.length : Int) ≤ l.sum
  | [], _ => by simp
  | a :: l, h => by
    have a1 := h a (by simp)
    have a2 := sum_ge (l := l) fun x hx => h x (List.mem_cons_of_mem _ hx)
    rw [List.sum_cons, List.length_cons]
    omega
end L3
namespace L3
end L3
namespace L3
open PySem
theorem str_snoc {l : List Nat} {c : Nat} : (⟨l.toArray⟩ : Str) ++ ⟨#[c]⟩ = ⟨(l ++ [c]).toArray⟩ := by
  show Str.mk (l.toArray ++ #[c]) = _
  simp
end L3
namespace L3
open PySem
theorem rules_snoc {rs : List Rule} {h : Str} {g : Grp} {p : List Str × Rat} : rulesD (rs ++ grp h (g ++ [p])) = rulesD (rs ++ grp h g) ++ [ruleD (h, p.1, p.2)] := by
  unfold rulesD grp
  simp
end L3
namespace L3
open PySem
end L3
set_option Elab.async false
set_option linter.all false
set_option maxRecDepth 100000
set_option maxHeartbeats 4000000
namespace L3
open PySem PySem.Spec PySem.Calls PyProof.Rows L2
end L3
set_option Elab.async false
set_option linter.all false
set_option maxRecDepth 100000
set_option maxHeartbeats 4000000
namespace L3
open PySem PySem.Spec PySem.Calls PyProof.Rows L2
section
variable {hs ws : List Str} {rs : List Rule} {st : Str}
end
end L3
namespace L3
open PySem PySem.Spec PySem.Calls PyProof.Rows L2
end L3
namespace L3
open PySem PySem.Spec PySem.Calls PyProof.Rows L2
end L3
namespace L3
open PySem
theorem len1 {us : List Value} (e : us.length = 1) : ∃ a, us = [a] := List.length_eq_one_iff.mp e
theorem len2 {us : List Value} (e : us.length = 2) : ∃ a b, us = [a, b] := by
  cases us with
  | nil => cases e
  | cons a r => obtain ⟨b, h⟩ := len1 (Nat.succ.inj e); exact ⟨a, b, by rw [h]⟩
theorem len3 {us : List Value} (e : us.length = 3) : ∃ a b c, us = [a, b, c] := by
  cases us with
  | nil => cases e
  | cons a r => obtain ⟨b, c, h⟩ := len2 (Nat.succ.inj e); exact ⟨a, b, c, by rw [h]⟩
theorem len4 {us : List Value} (e : us.length = 4) : ∃ a b c d, us = [a, b, c, d] := by
  cases us with
  | nil => cases e
  | cons a r => obtain ⟨b, c, d, h⟩ := len3 (Nat.succ.inj e); exact ⟨a, b, c, d, by rw [h]⟩
end L3
set_option Elab.async false
set_option linter.all false
set_option maxRecDepth 100000
set_option maxHeartbeats 4000000
namespace L3
open PySem PySem.Spec PySem.Calls PyProof.Rows L2
theorem isL_split {K : PySem.W.Frag} {F : Hp} {d : D} : ∀ {ds : List D} {xs : List V}, IsL K F (ds ++ [d]) xs → ∃ ys y, xs = ys ++ [y] ∧ IsL K F ds ys ∧ Is K F d y
  | [], xs, h => by
    obtain ⟨y, rfl, iy⟩ := isL1 (show IsL K F [d] xs from h)
    exact ⟨[], y, rfl, IsL.nil, iy⟩
  | e :: ds, xs, h => by
    cases xs with
    | nil => simp only [List.cons_append, IsL] at h; obtain ⟨_, _, z, _⟩ := h; cases z
    | cons x xs =>
      simp only [List.cons_append, IsL] at h
      obtain ⟨x', xs', z, ix, ixs⟩ := h
      cases z
      obtain ⟨ys, y, rfl, iys, iy⟩ := isL_split ixs
      exact ⟨x :: ys, y, rfl, IsL.cons ix iys, iy⟩
section
variable {X : Cx} {B : Bs} {Γ : Ga} {Ω : Om} {E : E3} {rest body : List Stmt} {e c : Expr} {pos : Pos} {x : Str} {ds es : List D} {d : D}
theorem w_whileV (hp : PassesOwn (model X.prog X.w) X.A X.env X.xe) (J : Nat → Ga → Om → Prop) {n : Nat} (h0 : J n Γ Ω)
    (step : ∀ m Γ Ω, J m Γ Ω → VT3 X B c Γ Ω fun k Ω1 => (k = true → W3 X B body Γ Ω1 { E with nx := fun Γ' Ω' => ∃ m', m' < m ∧ J m' Γ' Ω', ct := fun Γ' Ω' => ∃ m', m' < m ∧ J m' Γ' Ω', bk := fun Γ' Ω' => W3 X B rest Γ' Ω' E }) ∧ (k = false → W3 X B rest Γ Ω1 E)) :
    W3 X B (.While c body [] pos :: rest) Γ Ω E := fun F σ H S pins s I => by
  refine pss_cons (ps_while hp pt_w pss_w) pss_w pins s σ H _ I ⟨fun m σ H => ∃ Γ Ω F1, Sat X.K B Γ Ω F1 σ H ∧ Same F F1 ∧ J m Γ Ω, ⟨n, Γ, Ω, F, S, Same.refl _, h0⟩, ?_⟩
  rintro m σ H ⟨Γ, Ω, F1, S, f1, j⟩
  refine (step m Γ Ω j F1 σ H S).mono fun k H' ⟨Ω', F', S', f', ht, hf⟩ => ?_
  cases k with
  | true =>
    refine iteT ⟨nX X.K B F fun Γ' Ω' => ∃ m', m' < m ∧ J m' Γ' Ω', ?_, ends_mono (D := E3.to X.K B F { E with nx := fun Γ' Ω' => ∃ m', m' < m ∧ J m' Γ' Ω', ct := fun Γ' Ω' => ∃ m', m' < m ∧ J m' Γ' Ω', bk := fun Γ' Ω' => W3 X B rest Γ' Ω' E })
      (D' := { nx := nX X.K B F fun Γ' Ω' => ∃ m', m' < m ∧ J m' Γ' Ω', rt := (E.to X.K B F).rt, bk := WS X rest (E.to X.K B F), ct := nX X.K B F fun Γ' Ω' => ∃ m', m' < m ∧ J m' Γ' Ω' }) (fun _ _ q => q) (fun _ _ q => q) (fun _ _ q => nx_rest q) (fun _ _ q => q) (to_mono (f1.trans f') (ht rfl F' σ H' S'))⟩
    rintro σ' H' ⟨Γ', Ω', F', S', f', m', l, j'⟩
    exact ⟨m', l, Γ', Ω', F', S', f', j'⟩
  | false => exact iteF (to_mono (f1.trans f') (hf rfl F' σ H' S'))
theorem vt_ownL {i : Nat} {a : Addr} {np : Pos} {RT : Bool → Om → Prop} (hi : X.N[i]? = some x) (hv : Vis X.env.scope x) (hΓ : Γ[i]? = some (some (.raw (.ref a)))) (hm : (a, oLst X.K ds) ∈ Ω) (r : RT (!ds.isEmpty) Ω)
    (hd : (x == ("__debug__" : Str)) = false := by decide) (hcd : (x == ("__classdict__" : Str)) = false := by decide)
    (he : ∀ whole, isTrue (.Name x np) X.env whole = (do let v ← whole; standAt (Expr.Name x np).pos; holding [v] (truthy v)) := by intro _; rfl) : VT3 X B (.Name x np) Γ Ω RT := fun F σ H S pins s I => by
  obtain ⟨v, e1, e2⟩ := S.sl i _ hΓ
  cases isR e2
  obtain ⟨fa, o0, ha, ho⟩ := S.own _ hm
  obtain ⟨xs, rfl, il⟩ := ho F (Same.refl _)
  refine pt_truth (pe_var hi hv hd hcd) he pins s σ H _ I ⟨_, e1, !xs.isEmpty, .inl ⟨xs, SqL.of ha, rfl⟩, Ω, F, S, Same.refl _, ?_⟩
  have : xs.isEmpty = ds.isEmpty := by
    have := il.len
    cases xs <;> cases ds <;> simp_all
  rw [this]
  exact r
theorem v_popL {i : Nat} {a : Addr} {np apos cpos : Pos} {R : D → Om → Prop} (hi : X.N[i]? = some x) (hv : Vis X.env.scope x) (hΓ : Γ[i]? = some (some (.raw (.ref a)))) (r : R d ((a, oLst X.K ds) :: Ω))
    (hd : (x == ("__debug__" : Str)) = false := by decide) (hcd : (x == ("__classdict__" : Str)) = false := by decide)
    (hp : ∀ {to : TE}, PE X (.Name x np) to → PE X (.Call (.Attribute (.Name x np) "pop" apos) [] [] cpos) (tBM0 X.K "list" rPop to) := by exact fun a => pe_bm0 PySem.F.plainAttrs_list PySem.F.slot_list_pop PySem.F.type_list_pop mt_pop a) :
    V3 X B (.Call (.Attribute (.Name x np) "pop" apos) [] [] cpos) Γ ((a, oLst X.K (ds ++ [d])) :: Ω) R := fun F σ H S pins s I => by
  obtain ⟨v, e1, e2⟩ := S.sl i _ hΓ
  cases isR e2
  obtain ⟨fa, o0, ha, ho⟩ := S.own (a, oLst X.K (ds ++ [d])) (by simp)
  obtain ⟨xs, rfl, il⟩ := ho F (Same.refl _)
  obtain ⟨ys, y, rfl, iys, iy⟩ := isL_split il
  refine hp (pe_var hi hv hd hcd) pins s σ H _ I ⟨_, e1, .inl ⟨rfl, _, SqL.of ha⟩, a, _, y, rfl, rfl, ha, by simp, ?_⟩
  rw [List.dropLast_concat]
  exact ⟨d, _, F, S.turn fun F2 e2 => ⟨_, rfl, iys.mono e2⟩, Same.refl _, iy, r⟩
theorem w_extend {i : Nat} {a : Addr} {apos np ppos : Pos} (hi : X.N[i]? = some x) (hv : Vis X.env.scope x) (hΓ : Γ[i]? = some (some (.raw (.ref a)))) (he : PF3 X Γ e es) (hz : ds.length + es.length ≤ sizeLine) (h : W3 X B rest Γ ((a, oLst X.K (ds ++ es)) :: Ω) E)
    (hs : ∀ {t : TE}, PE X (.Call (.Attribute (.Name x np) "extend" apos) [e] [] ppos) t → PS X (.Expr (.Call (.Attribute (.Name x np) "extend" apos) [e] [] ppos) pos) (tDrop t) := by exact fun h => ps_expr h)
    (hd : (x == ("__debug__" : Str)) = false := by decide) (hcd : (x == ("__classdict__" : Str)) = false := by decide) (hst : starEach [e] X.env = (false, eval e X.env) :: starEach [] X.env := by rfl)
    (hp : ∀ {to : TE} {ta : TA}, PE X (.Name x np) to → PA X [e] ta → PE X (.Call (.Attribute (.Name x np) "extend" apos) [e] [] ppos) (tBM X.K "list" rExtend to ta) := by exact fun a b => pe_bm PySem.F.plainAttrs_list PySem.F.slot_list_extend PySem.F.type_list_extend mt_extend a b) :
    W3 X B (.Expr (.Call (.Attribute (.Name x np) "extend" apos) [e] [] ppos) pos :: rest) Γ ((a, oLst X.K ds) :: Ω) E := fun F σ H S pins s I => by
  obtain ⟨v, e1, e2⟩ := S.sl i _ hΓ
  cases isR e2
  obtain ⟨fa, o0, ha, ho⟩ := S.own (a, oLst X.K ds) (by simp)
  obtain ⟨xs, rfl, il⟩ := ho F (Same.refl _)
  refine pss_cons (hs (hp (pe_var hi hv hd hcd) (pa_cons he pa_nil hst))) pss_w pins s σ H _ I ⟨_, e1, .inl ⟨rfl, _, SqL.of ha⟩, F, S.fh, S.sl, fun p ys H' F' pu hp fp e' iv => ?_⟩
  have S1 := S.pur pu
  exact ⟨a, p, xs, ys, rfl, rfl, pu.hh _ _ ha, e', by rw [il.len, iv.len]; exact hz, to_mono pu.ff (h F' σ _ (S1.turn fun F2 e2 => ⟨_, rfl, (il.mono (pu.ff.trans e2)).append (iv.mono e2)⟩))⟩
end
end L3
set_option Elab.async false
set_option linter.all false
set_option maxRecDepth 100000
set_option maxHeartbeats 4000000
namespace L3
open PySem PySem.Spec PySem.Calls PyProof.Rows L2
section
variable {X : Cx} {B : Bs} {Γ : Ga} {Ω : Om} {a b : Expr} {pos : Pos} {d d' : D} {ds es : List D}
theorem op_neTS (hu : X.A.units < cLine) : OpR X (compareOp .NotEq) (fun x y H Q => ∃ p xs t, x = .ref p ∧ SqT X.K H p xs ∧ y = .str t ∧ Q (.bl true) H) := by
  intro pins s σ H x y v u Q I rx ry h
  obtain ⟨p, xs, t, rfl, hx, rfl, q⟩ := h
  cases rx
  obtain ⟨k, rfl⟩ := ry
  obtain ⟨us, r1, t1, _⟩ := I.tuple hx
  exact SeqAt.RcNeAt.tuple_str t k (show s.heap.IsTuple p us.toArray from t1) hu X.prog X.w X.xe _ ⟨.bl true, H, I, rfl, q⟩
theorem c_neTS {t : Str} (hu : X.A.units + 64 < cLine) (ha : P3 X Γ a (.tup ds)) (hb : P3 X Γ b (.str t)) : C3 X Γ a .NotEq b true :=
  c_R (op_neTS (by omega)) ha hb fun x y H F Q fh i1 i2 q => by
    obtain ⟨p, xs, rfl, s1, j1⟩ := isT i1
    simp only [Is] at i2
    exact ⟨p, xs, t, rfl, same_tup fh s1, i2, q⟩
theorem op_isNotB : OpR X (compareOp .IsNot) (fun x y H Q => ∃ i j, x = .bl i ∧ y = .bl j ∧ Q (.bl (!(i == j))) H) := by
  intro pins s σ H x y v u Q I rx ry h
  obtain ⟨i, j, rfl, rfl, q⟩ := h
  cases rx
  cases ry
  refine wpAny_isNot_plain rfl ⟨.bl _, H, I, rfl, ?_⟩
  have : (Value.bool i == Value.bool j) = (i == j) := by cases i <;> cases j <;> decide
  rw [this]
  exact q
theorem c_isNotB {i j : Bool} (ha : P3 X Γ a (.bl i)) (hb : P3 X Γ b (.bl j)) : C3 X Γ a .IsNot b (!(i == j)) :=
  c_R op_isNotB ha hb fun x y H F Q fh i1 i2 q => by
    simp only [Is] at i1 i2
    exact ⟨i, j, i1, i2, q⟩
def nst : D → Bool
  | .non => true
  | .str _ => true
  | .tup _ => true
  | _ => false
def isNon : D → Bool
  | .non => true
  | _ => false
def noneV : Value → Bool
  | .none => true
  | _ => false
theorem eq_none {pins : List (Addr × Obj)} {s : Shared} {σ : L2.St} {H : Hp} {x : V} {v : Value} {A : Around} (hu : A.units < cLine) (I : Inv X pins σ H s) (rx : RelV x v) (hk : nst d = true) (i : Is X.K H d x) : SeqAt.EqAt A s v .none (noneV v) ∧ noneV v = isNon d := by
  cases d <;> simp [nst] at hk <;> simp only [Is] at i
  · subst i; cases rx; exact ⟨SeqAt.EqAt.same _, rfl⟩
  · subst i; obtain ⟨t, rfl⟩ := rx; exact ⟨SeqAt.EqAt.str_none _ _, rfl⟩
  · obtain ⟨p, xs, rfl, s1, _⟩ := i
    cases rx
    obtain ⟨us, r1, t1, _⟩ := I.tuple s1
    exact ⟨SeqAt.EqAt.tuple_none (show s.heap.IsTuple p us.toArray from t1) hu, rfl⟩
theorem any_none {pins : List (Addr × Obj)} {s : Shared} {σ : L2.St} {H : Hp} {A : Around} (hu : A.units < cLine) (I : Inv X pins σ H s) : ∀ {ds : List D} {xs : List V} {its : List Value}, Vals xs its → IsL X.K H ds xs → (∀ e ∈ ds, nst e = true) → (∀ w ∈ its, SeqAt.EqAt A s w .none (noneV w)) ∧ its.any noneV = ds.any isNon
  | [], xs, its, r, i, _ => by
    simp only [IsL] at i
    subst i
    cases r
    exact ⟨fun w hw => (List.not_mem_nil hw).elim, rfl⟩
  | d :: ds, xs, its, r, i, hk => by
    simp only [IsL] at i
    obtain ⟨x, xs', rfl, i1, i2⟩ := i
    cases r with
    | cons rx r =>
      obtain ⟨e1, e2⟩ := eq_none hu I rx (hk d (by simp)) i1
      obtain ⟨e3, e4⟩ := any_none hu I r i2 fun e he => hk e (by simp [he])
      refine ⟨fun w hw => ?_, ?_⟩
      · rcases List.mem_cons.mp hw with z | z
        · subst z; exact e1
        · exact e3 w z
      · rw [List.any_cons, List.any_cons, e2, e4]
theorem op_inN (hu : X.A.units + 64 < cLine) : OpR X (compareOp .In) (fun x y H Q => ∃ p xs ds, x = .non ∧ y = .ref p ∧ SqL X.K H p xs ∧ IsL X.K H ds xs ∧ (∀ e ∈ ds, nst e = true) ∧ Q (.bl (ds.any isNon)) H) := by
  intro pins s σ H x y v u Q I rx ry h
  obtain ⟨p, xs, ds, rfl, rfl, hq, hi, hk, q⟩ := h
  cases rx
  cases ry
  obtain ⟨its, r, pl, hz⟩ := I.list hq
  obtain ⟨c1, c2⟩ := any_none (A := X.A.in1) (by show X.A.units + 1 < cLine; omega) I r hi hk
  refine SeqAt.in_listAt noneV pl.isList (fun w hw => c1 w (by simpa using hw)) ⟨.bl _, H, I, rfl, ?_⟩
  rw [show its.toArray.any noneV = its.any noneV by simp, c2]
  exact q
theorem c_inN (hu : X.A.units + 64 < cLine) (ha : P3 X Γ a .non) (hb : P3 X Γ b (.lst ds)) (hk : ∀ e ∈ ds, nst e = true) : C3 X Γ a .In b (ds.any isNon) :=
  c_R (op_inN hu) ha hb fun x y H F Q fh i1 i2 q => by
    obtain ⟨l, xs, rfl, s1, j1⟩ := isLst i2
    simp only [Is] at i1
    exact ⟨l, xs, ds, i1, rfl, fh.seq s1, j1.mono fh, hk, q⟩
theorem t_chainI {c : Expr} {i j k : Int} (ha : P3 X Γ a (.int i)) (hb : P3 X Γ b (.int j)) (hc : P3 X Γ c (.int k)) (hm : lastMarks [.LtE, .Lt] [b, c] = false := by with_unfolding_all rfl) : PT3 X Γ (.Compare a [.LtE, .Lt] [b, c] pos) (decide (i ≤ j) && decide (j < k)) :=
  PT.of (pt_chain op_le op_lt ha hb hc hm) fun σ H Q zq => by
    obtain ⟨F, fh, sl, q⟩ := zq
    refine ⟨F, fh, sl, fun v1 H1 F1 p1 i1 => ⟨F1, p1.fh, sl.mono p1.ff, fun v2 H2 F2 p2 i2 => ⟨i, j, isI i1, isI i2, decide (i ≤ j), rfl, ?_⟩⟩⟩
    cases e : decide (i ≤ j) with
    | true =>
      rw [if_pos rfl]
      refine ⟨F2, p2.fh, sl.mono (p1.ff.trans p2.ff), fun v3 H3 F3 p3 i3 => ⟨j, k, isI i2, isI i3, _, rfl, ?_⟩⟩
      have := q _ _ ((p1.trans p2).trans p3)
      rw [e, Bool.true_and] at this
      exact this
    | false =>
      rw [if_neg Bool.false_ne_true]
      have := q _ _ (p1.trans p2)
      rw [e, Bool.false_and] at this
      exact ⟨_, rfl, this⟩
end
end L3
set_option Elab.async false
set_option linter.all false
set_option maxRecDepth 100000
set_option maxHeartbeats 4000000
namespace PySem
open Sem (wp)
section
variable {prog : Program} {w : World} {A : Around} {E : Value → Shared → Prop} {s : Shared}
theorem nextOf_tup_item {it t : Addr} {i : Nat} {us : Array Value} {x : Value} {Q : Value → Shared → Prop} (hI : s.heap.IsTupleIter it t i) (hT : s.heap.IsTuple t us) (hx : us[i]? = some x)
    (k : ∀ g, g.IsTupleIter it t (i + 1) → Heap.SameBut it s.heap g → Q x { s with heap := g }) : wpAny (model prog w) A (Builtin.SmallTypes.nextOf (.ref it)) Q E s := by
  obtain ⟨o, ho, hc, hd⟩ := id hI
  obtain ⟨o2, h2, _, m, d2⟩ := hT
  unfold Builtin.SmallTypes.nextOf
  refine wpAny_bind (wpAny_callSpecial?_slot (name := Str.ofString "__next__") hI.typeIs F.slot_tuple_iterator_next (wpAny_call_entry F.slot_tuple_iterator_next hI.typeIs F.entry_tuple_iterator_next ?_ (F.args_tuple_iterator_next_1 _)))
  show wpAny _ _ (field (.ref it) 0 >>= _) _ _ _
  refine wpAny_bind (wpAny_field ho hd (x := .ref t) rfl ?_)
  show wpAny _ _ (if (Value.ref t == Value.none) = true then _ else _) _ _ _
  rw [if_neg (show ¬ ((Value.ref t == Value.none) = true) from fun z => nomatch z)]
  show wpAny _ _ (field (.ref it) 1 >>= _) _ _ _
  refine wpAny_bind (wpAny_field ho hd (x := .int i 0) rfl ?_)
  refine wpAny_bind (wpAny_seqItems h2 d2 ?_)
  simp only [Int.toNat_natCast, hx]
  refine wpAny_bind (wpAny_setField ho hd (by simp) (wpAny_pure ⟨x, rfl, wpAny_pure (k _ ⟨_, Heap.get?_update_self _ ho (Obj.isFreed_of_fields (Obj.data_mapFields hd _)), (Obj.cls_mapFields ..).trans hc, ?_⟩ (Heap.SameBut.update ..))⟩))
  rw [Obj.data_mapFields hd]
  simp [rawInt]
theorem nextOf_tup_end {it t : Addr} {i : Nat} {us : Array Value} {Q : Value → Shared → Prop} (hh : A.handled = none) (hI : s.heap.IsTupleIter it t i) (hT : s.heap.IsTuple t us) (hx : us[i]? = none)
    (k : ∀ g e, Heap.ExtBut it s.heap g → (∃ o, g.get? e = some o ∧ o.cls = .type "StopIteration") → E (.ref e) { s with heap := g }) : wpAny (model prog w) A (Builtin.SmallTypes.nextOf (.ref it)) Q E s := by
  obtain ⟨o, ho, hc, hd⟩ := id hI
  obtain ⟨o2, h2, _, m, d2⟩ := hT
  unfold Builtin.SmallTypes.nextOf
  refine wpAny_bind (wpAny_callSpecial?_slot (name := Str.ofString "__next__") hI.typeIs F.slot_tuple_iterator_next (wpAny_call_entry F.slot_tuple_iterator_next hI.typeIs F.entry_tuple_iterator_next ?_ (F.args_tuple_iterator_next_1 _)))
  show wpAny _ _ (field (.ref it) 0 >>= _) _ _ _
  refine wpAny_bind (wpAny_field ho hd (x := .ref t) rfl ?_)
  show wpAny _ _ (if (Value.ref t == Value.none) = true then _ else _) _ _ _
  rw [if_neg (show ¬ ((Value.ref t == Value.none) = true) from fun z => nomatch z)]
  show wpAny _ _ (field (.ref it) 1 >>= _) _ _ _
  refine wpAny_bind (wpAny_field ho hd (x := .int i 0) rfl ?_)
  refine wpAny_bind (wpAny_seqItems h2 d2 ?_)
  simp only [Int.toNat_natCast, hx]
  refine wpAny_bind (wpAny_rule (wpAny_bind (wpAny_setField ho hd (by simp) ?_)))
  refine wpAny_bind (m := newExc (.type "StopIteration") []) ?_
  simp only [newExc, newTuple]
  refine wpAny_bind (wpAny_newObj_type (wpAny_bind (m := firstArgMember _ _) (wpAny_of_eq (a := Value.none) (by first | rfl | (simp only [firstArgMember]; rfl)) (wpAny_newObj_type ?_ (by size_fits)))) (by size_fits))
  simp only [raiseNew]
  refine wpAny_bind (wpAny_handled ?_)
  first | rw [show A.in1.handled = none from hh] | rw [hh]
  exact wpAny_bind (wpAny_pure (wpAny_throw (k _ _ (((Heap.SameBut.update ..).extBut.push _).push _) ⟨_, Heap.get?_push_size _ rfl, rfl⟩)))
abbrev ZipO (h : Heap) (z TI TO : Addr) (f0 : Value) (f1 : Bool) : Prop := h.get? z = some { cls := .type "zip", dict := none, data := .fields #[f0, .bool f1, .bool false, .ref TI, .ref TO], slots := #[] }
structure ZipT (h : Heap) (TI i1 i2 t1 t2 : Addr) (xs ys : Array Value) (k : Nat) : Prop where
  pr : IsPair h TI (.ref i1) (.ref i2)
  a1 : h.IsTupleIter i1 t1 k
  a2 : h.IsTupleIter i2 t2 k
  b1 : h.IsTuple t1 xs
  b2 : h.IsTuple t2 ys
theorem zipT_free {z TI TO i1 i2 t1 t2 : Addr} {k : Nat} {xs ys : Array Value} {x y a b : Value} {Q : Value → Shared → Prop} (D : ZipApart z TI TO i1 i2 t1 t2) (hz : ZipO s.heap z TI TO .none false) (c : ZipT s.heap TI i1 i2 t1 t2 xs ys k) (ho : IsPair s.heap TO a b) (hx : xs[k]? = some x) (hy : ys[k]? = some y)
    (K : ∀ g, ZipO g z TI TO (rawInt s.heap.objs.size) false → IsPair g TO x y → ZipT g TI i1 i2 t1 t2 xs ys (k + 1) → IsPair g s.heap.objs.size x y → g.objs.size = s.heap.objs.size + 1 → (∀ b o, b ≠ z → b ≠ TO → b ≠ i1 → b ≠ i2 → s.heap.get? b = some o → g.get? b = some o) → Q (.ref s.heap.objs.size) { s with heap := g }) :
    wpAny (model prog w) A (Builtin.«zip.__next__» ⟨[.ref z], []⟩) (fun fin s' => ∃ v, fin = .done (.ret v) ∧ Q v s') E s := by
  show wpAny _ _ (field (.ref z) 2 >>= _) _ _ _
  refine wpAny_bind (wpAny_field (s := s) hz rfl (x := .bool false) rfl ?_)
  show wpAny _ _ (field (.ref z) 3 >>= _) _ _ _
  refine wpAny_bind (wpAny_field (s := s) hz rfl (x := .ref TI) rfl ?_)
  refine wpAny_bind (wpAny_seqItems (s := s) c.pr rfl ?_)
  show wpAny _ _ (Builtin.SmallTypes.ownedTupleIsFree (.ref z) >>= _) _ _ _
  refine wpAny_bind ?_
  unfold Builtin.SmallTypes.ownedTupleIsFree
  refine wpAny_bind (wpAny_field (s := s) hz rfl (x := .none) rfl (wpAny_pure ?_))
  simp only [if_true]
  refine wpAny_bind (wpAny_rule (wpAny_bind (wpAny_field (s := s) hz rfl (x := .ref TO) rfl (wpAny_bind (wpAny_setField_rec hz (by simp) fun g1 z1 s1 => wpAny_bind ?_)))))
  have z1 : ZipO g1 z TI TO .ellipsis false := z1
  simp only [List.zipIdx_cons, List.zipIdx_nil, List.forIn_cons, List.forIn_nil]
  refine wpAny_bind (wpAny_bind (wpAny_onRaise ?_))
  show wpAny _ _ (Builtin.SmallTypes.nextOf (.ref i1) >>= _) _ _ _
  refine wpAny_bind (nextOf_tup_item (c.a1.extBut s1.extBut D.i1z) (c.b1.extBut s1.extBut D.l1z) hx fun g2 j1 s2 => wpAny_pure ?_)
  have o2 : IsPair g2 TO a b := s2.extBut _ _ D.TOi1 (s1.extBut _ _ D.TOz ho)
  refine wpAny_bind (wpAny_seqItems o2 rfl (wpAny_bind (wpAny_updateSeq_pair o2 fun g3 o3 s3 => wpAny_bind (wpAny_letGo (wpAny_pure ?_)))))
  have o3 : IsPair g3 TO x b := o3
  refine wpAny_bind (wpAny_bind (wpAny_onRaise ?_))
  show wpAny _ _ (Builtin.SmallTypes.nextOf (.ref i2) >>= _) _ _ _
  refine wpAny_bind (nextOf_tup_item (((c.a2.extBut s1.extBut D.i2z).extBut s2.extBut D.i12.symm).extBut s3.extBut D.TOi2.symm) (((c.b2.extBut s1.extBut D.l2z).extBut s2.extBut D.l2i1).extBut s3.extBut D.l2TO) hy fun g4 j2 s4 => wpAny_pure ?_)
  have o4 : IsPair g4 TO x b := s4.extBut _ _ D.TOi2 o3
  refine wpAny_bind (wpAny_seqItems o4 rfl (wpAny_bind (wpAny_updateSeq_pair o4 fun g5 o5 s5 => wpAny_bind (wpAny_letGo (wpAny_pure (wpAny_pure ?_))))))
  have o5 : IsPair g5 TO x y := o5
  refine wpAny_bind (wpAny_seqItems o5 rfl (wpAny_bind (wpAny_newTuple ?_)))
  have sz : g5.objs.size = s.heap.objs.size := by rw [s5.1, s4.1, s3.1, s2.1, s1.1]
  have z5 : ZipO g5 z TI TO .ellipsis false := s5.extBut _ _ D.TOz.symm (s4.extBut _ _ D.i2z.symm (s3.extBut _ _ D.TOz.symm (s2.extBut _ _ D.i1z.symm z1)))
  have k5 : ∀ b o, b ≠ z → b ≠ TO → b ≠ i1 → b ≠ i2 → s.heap.get? b = some o → g5.get? b = some o := fun b o c1 c2 c3 c4 e =>
    s5.extBut _ _ c2 (s4.extBut _ _ c4 (s3.extBut _ _ c2 (s2.extBut _ _ c3 (s1.extBut _ _ c1 e))))
  have j1' : g5.IsTupleIter i1 t1 (k + 1) := ((j1.extBut s3.extBut D.TOi1.symm).extBut s4.extBut D.i12).extBut s5.extBut D.TOi1.symm
  have j2' : g5.IsTupleIter i2 t2 (k + 1) := j2.extBut s5.extBut D.TOi2.symm
  have lz : z < g5.objs.size := Heap.lt_size z5
  show wpAny _ _ (Builtin.SmallTypes.ownedTupleHandOut (.ref z) (.ref g5.objs.size) >>= _) _ _ _
  refine wpAny_bind ?_
  unfold Builtin.SmallTypes.ownedTupleHandOut
  have z6 : ZipO (g5.push { cls := .type "tuple", data := .seq #[x, y] }) z TI TO .ellipsis false := Heap.get?_push_of_some _ z5
  refine wpAny_bind (wpAny_setField_rec z6 (by simp) fun g7 z7 s7 => ?_)
  have z7 : ZipO g7 z TI TO (rawInt g5.objs.size) false := z7
  refine wpAny_setField_rec z7 (by simp) fun g8 z8 s8 => ?_
  have z8 : ZipO g8 z TI TO (rawInt g5.objs.size) false := z8
  have up : ∀ b o, b ≠ z → g5.get? b = some o → g8.get? b = some o := fun b o c1 e => s8.extBut _ _ c1 (s7.extBut _ _ c1 (Heap.get?_push_of_some _ e))
  have nw : IsPair g8 g5.objs.size x y := s8.extBut _ _ (Nat.ne_of_gt lz) (s7.extBut _ _ (Nat.ne_of_gt lz) (Heap.get?_push_size _ rfl))
  have sz8 : g8.objs.size = g5.objs.size + 1 := by rw [s8.1, s7.1, Heap.size_push]
  rw [sz] at z8 nw sz8
  refine wpAny_pure ⟨_, rfl, ?_⟩
  show Q (.ref g5.objs.size) _
  rw [sz]
  have w5 : ∀ b o, b ≠ z → b ≠ TO → b ≠ i1 → b ≠ i2 → s.heap.get? b = some o → g8.get? b = some o := fun b o c1 c2 c3 c4 e => up b o c1 (k5 b o c1 c2 c3 c4 e)
  exact K g8 z8 (up _ _ D.TOz o5) ⟨w5 _ _ D.TIz D.TITO D.TIi1 D.TIi2 c.pr, j1'.at fun o e => up _ o D.i1z e, j2'.at fun o e => up _ o D.i2z e, (let ⟨o, q, r⟩ := c.b1; ⟨o, w5 _ _ D.l1z D.l1TO D.l1i1 D.l1i2 q, r⟩), (let ⟨o, q, r⟩ := c.b2; ⟨o, w5 _ _ D.l2z D.l2TO D.l2i1 D.l2i2 q, r⟩)⟩ nw sz8 w5
theorem wpAny_alive {a : Addr} {o : Obj} {Q : Option Obj → Shared → Prop} (ho : s.heap.get? a = some o) (h : Q (some o) s) : wpAny (model prog w) A (loadIfAlive a) Q E s := fun Γ p _ => by
  unfold loadIfAlive
  rw [Sem.wp_loadIfAlive, ho]
  exact (Sem.wp_pure ..).mpr h
theorem zipT_mark {z TI TO T : Addr} {f1 : Bool} {oT : Obj} {Q : Bool → Shared → Prop} (hz : ZipO s.heap z TI TO (rawInt T) f1) (hT : s.heap.get? T = some oT) (K : ∀ g, ZipO g z TI TO (rawInt T) true → Heap.SameBut z s.heap g → Q false { s with heap := g }) :
    wpAny (model prog w) A (Builtin.SmallTypes.ownedTupleIsFree (.ref z)) Q E s := by
  unfold Builtin.SmallTypes.ownedTupleIsFree
  refine wpAny_bind (wpAny_field (s := s) hz rfl (x := rawInt T) rfl ?_)
  show wpAny _ _ (loadIfAlive T >>= _) _ _ _
  refine wpAny_bind (wpAny_alive hT ?_)
  simp only [Option.isNone_some, Bool.false_eq_true, if_false]
  refine wpAny_bind (wpAny_field (s := s) hz rfl (x := .bool f1) rfl ?_)
  cases f1 with
  | true => exact wpAny_pure (K s.heap hz (Heap.SameBut.refl ..))
  | false => exact wpAny_bind (wpAny_setField_rec hz (by simp) fun g z1 s1 => wpAny_pure (K g z1 s1))
theorem zipT_held {z TI TO i1 i2 t1 t2 T : Addr} {k : Nat} {xs ys : Array Value} {x y : Value} {f1 : Bool} {oT : Obj} {Q : Value → Shared → Prop} (D : ZipApart z TI TO i1 i2 t1 t2) (hz : ZipO s.heap z TI TO (rawInt T) f1) (c : ZipT s.heap TI i1 i2 t1 t2 xs ys k) (hT : s.heap.get? T = some oT) (hx : xs[k]? = some x) (hy : ys[k]? = some y)
    (K : ∀ g, ZipO g z TI TO (rawInt T) true → ZipT g TI i1 i2 t1 t2 xs ys (k + 1) → IsPair g s.heap.objs.size x y → g.objs.size = s.heap.objs.size + 1 → (∀ b o, b ≠ z → b ≠ i1 → b ≠ i2 → s.heap.get? b = some o → g.get? b = some o) → Q (.ref s.heap.objs.size) { s with heap := g }) :
    wpAny (model prog w) A (Builtin.«zip.__next__» ⟨[.ref z], []⟩) (fun fin s' => ∃ v, fin = .done (.ret v) ∧ Q v s') E s := by
  show wpAny _ _ (field (.ref z) 2 >>= _) _ _ _
  refine wpAny_bind (wpAny_field (s := s) hz rfl (x := .bool false) rfl ?_)
  show wpAny _ _ (field (.ref z) 3 >>= _) _ _ _
  refine wpAny_bind (wpAny_field (s := s) hz rfl (x := .ref TI) rfl ?_)
  refine wpAny_bind (wpAny_seqItems (s := s) c.pr rfl ?_)
  show wpAny _ _ (Builtin.SmallTypes.ownedTupleIsFree (.ref z) >>= _) _ _ _
  refine wpAny_bind ?_
  refine zipT_mark hz hT fun g1 z1 s1 => ?_
  simp only [Bool.false_eq_true, if_false, ← Array.forIn_toList, List.forIn_cons, List.forIn_nil]
  refine wpAny_bind (wpAny_bind (wpAny_bind (wpAny_holding ?_)))
  show wpAny _ _ (Builtin.SmallTypes.nextOf (.ref i1) >>= _) _ _ _
  refine wpAny_bind (nextOf_tup_item (c.a1.extBut s1.extBut D.i1z) (c.b1.extBut s1.extBut D.l1z) hx fun g2 j1 s2 => wpAny_pure (wpAny_pure ?_))
  refine wpAny_bind (wpAny_bind (wpAny_holding ?_))
  show wpAny _ _ (Builtin.SmallTypes.nextOf (.ref i2) >>= _) _ _ _
  refine wpAny_bind (nextOf_tup_item ((c.a2.extBut s1.extBut D.i2z).extBut s2.extBut D.i12.symm) ((c.b2.extBut s1.extBut D.l2z).extBut s2.extBut D.l2i1) hy fun g3 j2 s3 => wpAny_pure (wpAny_pure (wpAny_pure ?_)))
  refine wpAny_bind (wpAny_newTuple (wpAny_pure ⟨_, rfl, ?_⟩) (by show (2 : Nat) ≤ sizeLine; decide))
  have sz : g3.objs.size = s.heap.objs.size := by rw [s3.1, s2.1, s1.1]
  have k3 : ∀ b o, b ≠ z → b ≠ i1 → b ≠ i2 → s.heap.get? b = some o → g3.get? b = some o := fun b o c1 c3 c4 e => s3.extBut _ _ c4 (s2.extBut _ _ c3 (s1.extBut _ _ c1 e))
  have z3 : ZipO g3 z TI TO (rawInt T) true := s3.extBut _ _ D.i2z.symm (s2.extBut _ _ D.i1z.symm z1)
  have j1' : g3.IsTupleIter i1 t1 (k + 1) := j1.extBut s3.extBut D.i12
  show Q (.ref g3.objs.size) _
  have nw : IsPair (g3.push { cls := .type "tuple", data := .seq #[x, y] }) g3.objs.size x y := Heap.get?_push_size _ rfl
  rw [sz] at nw ⊢
  have up : ∀ b o, g3.get? b = some o → (g3.push { cls := .type "tuple", data := .seq #[x, y] }).get? b = some o := fun b o e => Heap.get?_push_of_some _ e
  exact K _ (up _ _ z3) ⟨up _ _ (k3 _ _ D.TIz D.TIi1 D.TIi2 c.pr), j1'.at fun o e => up _ o e, j2.at fun o e => up _ o e, (let ⟨o, q, r⟩ := c.b1; ⟨o, up _ _ (k3 _ _ D.l1z D.l1i1 D.l1i2 q), r⟩), (let ⟨o, q, r⟩ := c.b2; ⟨o, up _ _ (k3 _ _ D.l2z D.l2i1 D.l2i2 q), r⟩)⟩ nw (by rw [Heap.size_push, sz]) fun b o c1 c2 c3 e => up _ _ (k3 b o c1 c2 c3 e)
theorem zipT_end {z TI TO i1 i2 t1 t2 : Addr} {k : Nat} {xs ys : Array Value} {a b f0 : Value} {f1 : Bool} {Q : Fin → Shared → Prop} (hh : A.handled = none) (D : ZipApart z TI TO i1 i2 t1 t2) (hz : ZipO s.heap z TI TO f0 f1) (hf : (f0 = .none ∧ f1 = false) ∨ ∃ T o, f0 = rawInt (T : Nat) ∧ s.heap.get? T = some o) (c : ZipT s.heap TI i1 i2 t1 t2 xs ys k) (ho : IsPair s.heap TO a b) (hend : xs[k]? = none ∨ ys[k]? = none)
    (K : ∀ g e, (∀ b o, b ≠ z → b ≠ TO → b ≠ i1 → b ≠ i2 → s.heap.get? b = some o → g.get? b = some o) → (∃ o, g.get? e = some o ∧ o.cls = .type "StopIteration") → E (.ref e) { s with heap := g }) :
    wpAny (model prog w) A (Builtin.«zip.__next__» ⟨[.ref z], []⟩) Q E s := by
  show wpAny _ _ (field (.ref z) 2 >>= _) _ _ _
  refine wpAny_bind (wpAny_field (s := s) hz rfl (x := .bool false) rfl ?_)
  show wpAny _ _ (field (.ref z) 3 >>= _) _ _ _
  refine wpAny_bind (wpAny_field (s := s) hz rfl (x := .ref TI) rfl ?_)
  refine wpAny_bind (wpAny_seqItems (s := s) c.pr rfl ?_)
  show wpAny _ _ (Builtin.SmallTypes.ownedTupleIsFree (.ref z) >>= _) _ _ _
  refine wpAny_bind ?_
  rcases hf with ⟨rfl, rfl⟩ | ⟨T, oT, rfl, hT⟩
  · unfold Builtin.SmallTypes.ownedTupleIsFree
    refine wpAny_bind (wpAny_field (s := s) hz rfl (x := .none) rfl (wpAny_pure ?_))
    simp only [if_true]
    refine wpAny_bind (wpAny_rule (wpAny_bind (wpAny_field (s := s) hz rfl (x := .ref TO) rfl (wpAny_bind (wpAny_setField_rec hz (by simp) fun g1 z1 s1 => wpAny_bind ?_)))))
    have z1 : ZipO g1 z TI TO .ellipsis false := z1
    simp only [List.zipIdx_cons, List.zipIdx_nil, List.forIn_cons, List.forIn_nil]
    refine wpAny_bind (wpAny_bind (wpAny_onRaise ?_))
    show wpAny _ _ (Builtin.SmallTypes.nextOf (.ref i1) >>= _) _ _ _
    cases hx : xs[k]? with
    | none =>
      refine wpAny_bind (nextOf_tup_end hh (c.a1.extBut s1.extBut D.i1z) (c.b1.extBut s1.extBut D.l1z) hx fun g2 e s2 he => ?_)
      obtain ⟨oe, h1, h2⟩ := he
      have z2 : ZipO g2 z TI TO .ellipsis false := s2 _ _ D.i1z.symm z1
      have ne : e ≠ z := fun q => by subst q; rw [z2] at h1; cases h1; simp at h2
      exact wpAny_setField_rec z2 (by simp) fun g3 _ s3 => K g3 e (fun b o c1 _ c3 _ q => s3.extBut _ _ c1 (s2 _ _ c3 (s1.extBut _ _ c1 q))) ⟨oe, s3.extBut _ _ ne h1, h2⟩
    | some x =>
      have hy : ys[k]? = none := hend.resolve_left (by rw [hx]; exact fun q => nomatch q)
      refine wpAny_bind (nextOf_tup_item (c.a1.extBut s1.extBut D.i1z) (c.b1.extBut s1.extBut D.l1z) hx fun g2 j1 s2 => wpAny_pure ?_)
      have o2 : IsPair g2 TO a b := s2.extBut _ _ D.TOi1 (s1.extBut _ _ D.TOz ho)
      refine wpAny_bind (wpAny_seqItems o2 rfl (wpAny_bind (wpAny_updateSeq_pair o2 fun g3 o3 s3 => wpAny_bind (wpAny_letGo (wpAny_pure (wpAny_bind (wpAny_bind (wpAny_onRaise ?_))))))))
      show wpAny _ _ (Builtin.SmallTypes.nextOf (.ref i2) >>= _) _ _ _
      refine wpAny_bind (nextOf_tup_end hh (((c.a2.extBut s1.extBut D.i2z).extBut s2.extBut D.i12.symm).extBut s3.extBut D.TOi2.symm) (((c.b2.extBut s1.extBut D.l2z).extBut s2.extBut D.l2i1).extBut s3.extBut D.l2TO) hy fun g4 e s4 he => ?_)
      obtain ⟨oe, h1, h2⟩ := he
      have z4 : ZipO g4 z TI TO .ellipsis false := s4 _ _ D.i2z.symm (s3.extBut _ _ D.TOz.symm (s2.extBut _ _ D.i1z.symm z1))
      have ne : e ≠ z := fun q => by subst q; rw [z4] at h1; cases h1; simp at h2
      exact wpAny_setField_rec z4 (by simp) fun g5 _ s5 => K g5 e (fun b o c1 c2 c3 c4 q => s5.extBut _ _ c1 (s4 _ _ c4 (s3.extBut _ _ c2 (s2.extBut _ _ c3 (s1.extBut _ _ c1 q))))) ⟨oe, s5.extBut _ _ ne h1, h2⟩
  · refine zipT_mark hz hT fun g1 z1 s1 => ?_
    simp only [Bool.false_eq_true, if_false, ← Array.forIn_toList, List.forIn_cons, List.forIn_nil]
    refine wpAny_bind (wpAny_bind (wpAny_bind (wpAny_holding ?_)))
    show wpAny _ _ (Builtin.SmallTypes.nextOf (.ref i1) >>= _) _ _ _
    cases hx : xs[k]? with
    | none => exact wpAny_bind (nextOf_tup_end hh (c.a1.extBut s1.extBut D.i1z) (c.b1.extBut s1.extBut D.l1z) hx fun g2 e s2 he => K g2 e (fun b o c1 _ c3 _ q => s2 _ _ c3 (s1.extBut _ _ c1 q)) he)
    | some x =>
      have hy : ys[k]? = none := hend.resolve_left (by rw [hx]; exact fun q => nomatch q)
      refine wpAny_bind (nextOf_tup_item (c.a1.extBut s1.extBut D.i1z) (c.b1.extBut s1.extBut D.l1z) hx fun g2 j1 s2 => wpAny_pure (wpAny_pure ?_))
      refine wpAny_bind (wpAny_bind (wpAny_holding ?_))
      show wpAny _ _ (Builtin.SmallTypes.nextOf (.ref i2) >>= _) _ _ _
      exact wpAny_bind (nextOf_tup_end hh ((c.a2.extBut s1.extBut D.i2z).extBut s2.extBut D.i12.symm) ((c.b2.extBut s1.extBut D.l2z).extBut s2.extBut D.l2i1) hy fun g4 e s4 he => K g4 e (fun b o c1 c2 c3 c4 q => s4 _ _ c4 (s2.extBut _ _ c3 (s1.extBut _ _ c1 q))) he)
theorem next_zip_item {z : Addr} {TI TO : Addr} {f0 : Value} {f1 : Bool} {Q : Option Value → Shared → Prop} (hz : ZipO s.heap z TI TO f0 f1) (h : ∀ A' E', wpAny (model prog w) A' (Builtin.«zip.__next__» ⟨[.ref z], []⟩) (fun fin s' => ∃ v, fin = .done (.ret v) ∧ Q (some v) s') E' s) :
    wpAny (model prog w) A (pyNext (.ref z)) Q E s := by
  have hT : s.TypeIs (.ref z) "zip" := ⟨_, hz, rfl⟩
  unfold pyNext
  refine wpAny_bind (wpAny_attempt (wpAny_callSpecial?_slot (name := Str.ofString "__next__") hT F.slot_zip_next (wpAny_call_entry F.slot_zip_next hT F.entry_zip_next (wpAny_mono (h _ _) (fun fin s' q => ?_) fun _ _ e => e) (F.args_zip_next_1 _))))
  obtain ⟨v, rfl, q⟩ := q
  exact ⟨v, rfl, wpAny_pure q⟩
theorem next_zip_end {z TI TO : Addr} {f0 : Value} {f1 : Bool} {Q : Option Value → Shared → Prop} (hz : ZipO s.heap z TI TO f0 f1) (hh : A.handled = none)
    (h : ∀ A' (Q' : Fin → Shared → Prop) (E' : Value → Shared → Prop), A'.handled = none → (∀ e s', (∃ o, s'.heap.get? e = some o ∧ o.cls = .type "StopIteration") → Q none s' → E' (.ref e) s') → wpAny (model prog w) A' (Builtin.«zip.__next__» ⟨[.ref z], []⟩) Q' E' s) :
    wpAny (model prog w) A (pyNext (.ref z)) Q E s := by
  have hT : s.TypeIs (.ref z) "zip" := ⟨_, hz, rfl⟩
  unfold pyNext
  refine wpAny_bind (wpAny_attempt (wpAny_callSpecial?_slot (name := Str.ofString "__next__") hT F.slot_zip_next (wpAny_call_entry F.slot_zip_next hT F.entry_zip_next (h _ _ _ hh fun e s' ho q => ?_) (F.args_zip_next_1 _))))
  obtain ⟨o, ho, hc⟩ := ho
  exact wpAny_bind (wpAny_isInstance (T := "StopIteration") (b := true) ⟨o, ho, hc⟩ isSubtype_stop (wpAny_pure q))
theorem go_zipT {elts : List Expr} {x1} {pos : Pos} {z TI TO T : Addr} {f1 : Bool} {Q : Unit → Shared → Prop} (hz : ZipO s.heap z TI TO (rawInt T) f1) (K : ∀ g, ZipO g z TI TO .none f1 → Heap.SameBut z s.heap g → Q () { s with heap := g }) :
    wpAny (model prog w) A (letOwnedTupleGo (.Tuple elts x1 pos) (.ref z) (.ref T)) Q E s := by
  unfold letOwnedTupleGo
  refine wpAny_bind (wpAny_load hz ?_)
  show wpAny _ _ (if (["enumerate", "zip", "dict_itemiterator", "dict_reverseitemiterator", "odict_iterator", "itertools.zip_longest", "itertools.pairwise"].contains "zip" && (#[rawInt T, .bool f1, .bool false, .ref TI, .ref TO] : Array Value)[0]? == some (rawInt T)) = true then _ else _) Q E s
  rw [if_pos (by simp)]
  exact wpAny_bind (wpAny_rule (wpAny_setField_rec hz (by simp) fun g z1 s1 => K g z1 s1))
theorem iter_zipT {z TI TO : Addr} {f0 : Value} {f1 : Bool} {Q : Value → Shared → Prop} (hz : ZipO s.heap z TI TO f0 f1) (h : Q (.ref z) s) : wpAny (model prog w) A (pyIter (.ref z)) Q E s := by
  have hT : s.TypeIs (.ref z) "zip" := ⟨_, hz, rfl⟩
  refine wpAny_pyIter_slot hT F.slot_zip_iter (wpAny_call_entry F.slot_zip_iter hT F.entry_zip_iter ?_ (F.args_zip_iter_1 _))
  show wpAny _ _ (ret (.ref z)) _ _ s
  exact wpAny_pure ⟨_, rfl, "zip", _, hT, F.slot_zip_next.lookup, h⟩
abbrev zH1 (h : Heap) (t : Addr) : Heap := h.push { cls := .type "tuple_iterator", data := .fields #[.ref t, .int 0 0] }
abbrev zH2 (h : Heap) (t u : Addr) : Heap := zH1 (zH1 h t) u
abbrev zH3 (h : Heap) (t u : Addr) : Heap := (zH2 h t u).push { cls := .type "tuple", data := .seq #[.ref h.objs.size, .ref (zH1 h t).objs.size] }
abbrev zH4 (h : Heap) (t u : Addr) : Heap := (zH3 h t u).push { cls := .type "tuple", data := .seq #[.none, .none] }
abbrev zH5 (h : Heap) (t u : Addr) : Heap := (zH4 h t u).push { cls := .type "zip", data := .fields #[.none, .bool false, .bool false, .ref (zH2 h t u).objs.size, .ref (zH3 h t u).objs.size] }
theorem meets_zipT (t u : Addr) (xs ys : Array Value) : Meets (Builtin.«zip.__new__» ⟨[.type "zip", .ref t, .ref u], []⟩) (fun _ R s => s.heap.IsTuple t xs ∧ s.heap.IsTuple u ys ∧ R (.ok (.ret (.ref (zH4 s.heap t u).objs.size))) { s with heap := zH5 s.heap t u }) :=
  .of_wp fun prog w A R s h => by
    obtain ⟨hp, g, d, tk, os⟩ := s
    obtain ⟨q1, q2, h⟩ := h
    have hsub := sub_zip
    have r1 : Heap.IsTuple (Shared.heap ⟨hp, g, d, tk, os⟩) t xs := q1
    have r2 : Heap.IsTuple (Shared.heap ⟨zH1 hp t, g, d, tk, os⟩) u ys := Heap.IsTuple.push q2 _
    wp_walk using wpAny_pyIter_tuple r1, wpAny_pyIter_tuple r2
    exact ⟨_, rfl, h⟩
theorem call_zipT {t u : Addr} {xs ys : Array Value} {Q : Value → Shared → Prop} (q1 : s.heap.IsTuple t xs) (q2 : s.heap.IsTuple u ys)
    (K : ∀ g, ZipO g (s.heap.objs.size + 4) (s.heap.objs.size + 2) (s.heap.objs.size + 3) .none false → ZipT g (s.heap.objs.size + 2) s.heap.objs.size (s.heap.objs.size + 1) t u xs ys 0 → IsPair g (s.heap.objs.size + 3) .none .none → g.objs.size = s.heap.objs.size + 5 → (∀ c o, s.heap.get? c = some o → g.get? c = some o) → Q (.ref (s.heap.objs.size + 4)) { s with heap := g }) :
    wpAny (model prog w) A (call (.type "zip") [.ref t, .ref u]) Q E s := by
  refine callType_new F.called_zip (by decide) (F.typeCall_zip_2 _ _) (F.newCall_zip_2 _ _) (fun obj => F.args_object_init_3 obj _ _) F.entry_zip_new (meets_zipT t u xs ys) ⟨q1, q2, ?_⟩
  have n1 : (zH1 s.heap t).objs.size = s.heap.objs.size + 1 := Heap.size_push ..
  have n2 : (zH2 s.heap t u).objs.size = s.heap.objs.size + 2 := by rw [Heap.size_push, n1]
  have n3 : (zH3 s.heap t u).objs.size = s.heap.objs.size + 3 := by rw [Heap.size_push, n2]
  have n4 : (zH4 s.heap t u).objs.size = s.heap.objs.size + 4 := by rw [Heap.size_push, n3]
  have n5 : (zH5 s.heap t u).objs.size = s.heap.objs.size + 5 := by rw [Heap.size_push, n4]
  have up : ∀ c o, s.heap.get? c = some o → (zH5 s.heap t u).get? c = some o := fun c o x => Heap.get?_push_of_some _ (Heap.get?_push_of_some _ (Heap.get?_push_of_some _ (Heap.get?_push_of_some _ (Heap.get?_push_of_some _ x))))
  have g5 : (zH5 s.heap t u).get? (zH4 s.heap t u).objs.size = some _ := Heap.get?_push_size _ rfl
  have g4 : (zH5 s.heap t u).get? (zH3 s.heap t u).objs.size = some _ := Heap.get?_push_of_some _ (Heap.get?_push_size _ rfl)
  have g3 : (zH5 s.heap t u).get? (zH2 s.heap t u).objs.size = some _ := Heap.get?_push_of_some _ (Heap.get?_push_of_some _ (Heap.get?_push_size _ rfl))
  have g2 : (zH5 s.heap t u).get? (zH1 s.heap t).objs.size = some _ := Heap.get?_push_of_some _ (Heap.get?_push_of_some _ (Heap.get?_push_of_some _ (Heap.get?_push_size _ rfl)))
  have g1 : (zH5 s.heap t u).get? s.heap.objs.size = some _ := Heap.get?_push_of_some _ (Heap.get?_push_of_some _ (Heap.get?_push_of_some _ (Heap.get?_push_of_some _ (Heap.get?_push_size _ rfl))))
  show _ ∧ _
  rw [n2, n3, n4] at g5
  rw [n1, n2] at g3
  rw [n3] at g4
  rw [n1] at g2
  rw [n4]
  exact ⟨⟨_, g5, rfl⟩, K _ g5 ⟨g3, ⟨_, g1, rfl, rfl⟩, ⟨_, g2, rfl, rfl⟩, (let ⟨o, q, r⟩ := q1; ⟨o, up _ _ q, r⟩), (let ⟨o, q, r⟩ := q2; ⟨o, up _ _ q, r⟩)⟩ g4 n5 up⟩
end
end PySem
set_option Elab.async false
set_option linter.all false
set_option maxRecDepth 100000
set_option maxHeartbeats 4000000
namespace PySem
open Sem (wp)
namespace RV
theorem owner_rv : Manifest.owners.lookup (String.ofList ['d', 'e', 's', 'r', 'e', 'v', 'e', 'r'].reverse) = some Manifest.sig_reversed := by kernel_rfl
theorem slot_next : Slot "reversed" "__next__" "reversed.__next__" :=
  .of (owner := "reversed") (n := "__next__") (by rw [typeLookup_type, builtinLookup_eq_fast]; kernel_rfl) (by decide +kernel) (by decide +kernel) (by decide +kernel) (.inl (by decide +kernel)) (by rw [isSubtype_type]; kernel_rfl)
theorem slot_iter : Slot "reversed" "__iter__" "reversed.__iter__" :=
  .of (owner := "reversed") (n := "__iter__") (by rw [typeLookup_type, builtinLookup_eq_fast]; kernel_rfl) (by decide +kernel) (by decide +kernel) (by decide +kernel) (.inl (by decide +kernel)) (by rw [isSubtype_type]; kernel_rfl)
theorem slot_hint : Slot "reversed" "__length_hint__" "reversed.__length_hint__" :=
  .of (owner := "reversed") (n := "__length_hint__") (by rw [typeLookup_type, builtinLookup_eq_fast]; kernel_rfl) (by decide +kernel) (by decide +kernel) (by decide +kernel) (.inr (by decide +kernel)) (by rw [isSubtype_type]; kernel_rfl)
theorem slot_init : Slot "reversed" "__init__" "object.__init__" :=
  .of (owner := "object") (n := "__init__") (by rw [typeLookup_type, builtinLookup_eq_fast]; kernel_rfl) (by decide +kernel) (by decide +kernel) (by decide +kernel) (.inl (by decide +kernel)) (by rw [isSubtype_type]; kernel_rfl)
theorem entry_next : entryFor table "reversed.__next__" = some Builtin.«reversed.__next__» := entryFor_of_tree (by kernel_rfl)
theorem entry_new : entryFor table "reversed.__new__" = some Builtin.«reversed.__new__» := entryFor_of_tree (by kernel_rfl)
theorem entry_hint : entryFor table "reversed.__length_hint__" = some Builtin.«reversed.__length_hint__» := entryFor_of_tree (by kernel_rfl)
theorem entry_iter : entryFor table "reversed.__iter__" = some Builtin.«dict_keyiterator.__iter__» :=
  entryFor_alias (id' := "dict_keyiterator.__iter__") (by kernel_rfl) (by first | rfl | decide +kernel | (unfold String.splitOn; simp +decide [String.splitOnAux])) (by decide +kernel) (by kernel_rfl)
theorem args_next (a : Value) : argsOk "reversed.__next__" ⟨[a], []⟩ := by
  unfold argsOk; rw [signature?_of (id := "reversed.__next__") (n := ['_', '_', 't', 'x', 'e', 'n', '_', '_']) (o := ['d', 'e', 's', 'r', 'e', 'v', 'e', 'r']) (by kernel_rfl) owner_rv]; kernel_rfl
theorem args_iter (a : Value) : argsOk "reversed.__iter__" ⟨[a], []⟩ := by
  unfold argsOk; rw [signature?_of (id := "reversed.__iter__") (n := ['_', '_', 'r', 'e', 't', 'i', '_', '_']) (o := ['d', 'e', 's', 'r', 'e', 'v', 'e', 'r']) (by kernel_rfl) owner_rv]; kernel_rfl
theorem args_hint (a : Value) : argsOk "reversed.__length_hint__" ⟨[a], []⟩ := by
  unfold argsOk; rw [signature?_of (id := "reversed.__length_hint__") (n := ['_', '_', 't', 'n', 'i', 'h', '_', 'h', 't', 'g', 'n', 'e', 'l', '_', '_']) (o := ['d', 'e', 's', 'r', 'e', 'v', 'e', 'r']) (by kernel_rfl) owner_rv]; kernel_rfl
theorem args_init (a b : Value) : argsOk "object.__init__" ⟨[a, b], []⟩ := by
  unfold argsOk; rw [signature?_of (id := "object.__init__") (n := ['_', '_', 't', 'i', 'n', 'i', '_', '_']) (o := ['t', 'c', 'e', 'j', 'b', 'o']) (by kernel_rfl) F.owner_object]; kernel_rfl
theorem mro : mroOf (.type "reversed") = pure [.type "reversed", .type "object"] := by rw [mroOf_type]; kernel_rfl
theorem look_new : typeLookup (.type "reversed") "__new__" = pure (some (.builtin "reversed.__new__")) := by rw [typeLookup_type, builtinLookup_eq_fast]; kernel_rfl
theorem called : TypeCalled "reversed" "reversed.__new__" "object.__init__" :=
  ⟨by decide +kernel, by decide +kernel, ⟨_, _, mro⟩, madeBy_type mro look_new (by decide +kernel), by decide +kernel, by rw [isSubtype_type]; kernel_rfl, slot_init⟩
theorem tcall (a : Value) : checkTypeCall "reversed" ⟨[a], []⟩ = pure () := by kernel_rfl
theorem ncall (a : Value) : checkBuiltinCall "reversed.__new__" ⟨[.type "reversed", a], []⟩ = pure () := by kernel_rfl
theorem sub : isSubtype (.type "reversed") (.type "reversed") = pure true := by rw [isSubtype_type]; kernel_rfl
theorem sub_td : isSubtype (.type "tuple") (.type "dict") = pure false := by rw [isSubtype_type]; kernel_rfl
theorem tup_norev : typeLookup (.type "tuple") "__reversed__" = pure none := by rw [typeLookup_type, builtinLookup_eq_fast]; kernel_rfl
theorem nolen : typeLookup (.type "reversed") "__len__" = pure none := by rw [typeLookup_type, builtinLookup_eq_fast]; kernel_rfl
theorem zip_nolen : typeLookup (.type "zip") "__len__" = pure none := by rw [typeLookup_type, builtinLookup_eq_fast]; kernel_rfl
theorem zip_nohint : typeLookup (.type "zip") "__length_hint__" = pure none := by rw [typeLookup_type, builtinLookup_eq_fast]; kernel_rfl
end RV
abbrev RevO (h : Heap) (r t : Addr) (i : Int) : Prop := h.get? r = some { cls := .type "reversed", dict := none, data := .fields #[.ref t, rawInt i], slots := #[] }
section
variable {prog : Program} {w : World} {A : Around} {E : Value → Shared → Prop} {s : Shared}
theorem meets_rev (t : Addr) (xs : Array Value) (hx : (xs.size : Int) < 2 ^ 63) : Meets (Builtin.«reversed.__new__» ⟨[.type "reversed", .ref t], []⟩) (fun _ R s => s.heap.IsTuple t xs ∧ R (.ok (.ret (.ref s.heap.objs.size))) { s with heap := s.heap.push { cls := .type "reversed", data := .fields #[.ref t, rawInt ((xs.size : Int) - 1)] }, toks := s.toks + 1 + 1 }) :=
  .of_wp fun prog w A R s h => by
    obtain ⟨hp, g, d, tk, os⟩ := s
    obtain ⟨q1, h⟩ := h
    have hsub := RV.sub
    have hd := RV.sub_td
    have hn := RV.tup_norev
    have hg := F.slot_tuple_getitem.lookup
    have r1 : Heap.IsTuple (Shared.heap ⟨hp, g, d, tk, os⟩) t xs := q1
    have L : ∀ {A' : Around} {E' : Value → Shared → Prop} {Q' : Value → Shared → Prop}, Q' (.int xs.size (tk + 1)) ⟨hp, g, d, tk + 1 + 1, os⟩ → wpAny (model prog w) A' (call (.builtin "len") [.ref t]) Q' E' ⟨hp, g, d, tk, os⟩ := fun h => PyProof.Rows.len_tuple r1 hx h
    wp_walk using L, wpAny_specialOf r1.typeIs hn, wpAny_isInstance r1.typeIs hd, wpAny_specialOf r1.typeIs hg
    exact ⟨_, rfl, h⟩
theorem call_rev {t : Addr} {xs : Array Value} {Q : Value → Shared → Prop} (q : s.heap.IsTuple t xs) (hx : (xs.size : Int) < 2 ^ 63)
    (K : ∀ g tk, RevO g s.heap.objs.size t ((xs.size : Int) - 1) → (∀ c o, s.heap.get? c = some o → g.get? c = some o) → Q (.ref s.heap.objs.size) { s with heap := g, toks := tk }) : wpAny (model prog w) A (call (.type "reversed") [.ref t]) Q E s := by
  refine callType_new RV.called (by decide) (RV.tcall _) (RV.ncall _) (fun obj => RV.args_init obj _) RV.entry_new (meets_rev t xs hx) ⟨q, ?_⟩
  have g1 : (s.heap.push { cls := .type "reversed", data := .fields #[.ref t, rawInt ((xs.size : Int) - 1)] }).get? s.heap.objs.size = some _ := Heap.get?_push_size _ rfl
  exact ⟨⟨_, g1, rfl⟩, K _ _ g1 fun c o e => Heap.get?_push_of_some _ e⟩
theorem iter_rev {r t : Addr} {i : Int} {Q : Value → Shared → Prop} (hz : RevO s.heap r t i) (h : Q (.ref r) s) : wpAny (model prog w) A (pyIter (.ref r)) Q E s := by
  have hT : s.TypeIs (.ref r) "reversed" := ⟨_, hz, rfl⟩
  refine wpAny_pyIter_slot hT RV.slot_iter (wpAny_call_entry RV.slot_iter hT RV.entry_iter ?_ (RV.args_iter _))
  show wpAny _ _ (ret (.ref r)) _ _ s
  exact wpAny_pure ⟨_, rfl, "reversed", _, hT, RV.slot_next.lookup, h⟩
theorem next_rev_item {r t : Addr} {i : Nat} {xs : Array Value} {x : Value} {Q : Option Value → Shared → Prop} (hz : RevO s.heap r t i) (q : s.heap.IsTuple t xs) (hi : xs[i]? = some x) (hs : (xs.size : Int) < 2 ^ 63)
    (K : ∀ g tk, RevO g r t ((i : Int) - 1) → Heap.SameBut r s.heap g → Q (some x) { s with heap := g, toks := tk }) : wpAny (model prog w) A (pyNext (.ref r)) Q E s := by
  have hT : s.TypeIs (.ref r) "reversed" := ⟨_, hz, rfl⟩
  have hl : i < xs.size := by rw [Array.getElem?_eq_some_iff] at hi; exact hi.1
  unfold pyNext
  refine wpAny_bind (wpAny_attempt (wpAny_callSpecial?_slot (name := Str.ofString "__next__") hT RV.slot_next (wpAny_call_entry RV.slot_next hT RV.entry_next ?_ (RV.args_next _))))
  show wpAny _ _ (field (.ref r) 0 >>= _) _ _ _
  refine wpAny_bind (wpAny_field (s := s) hz rfl (x := .ref t) rfl ?_)
  show wpAny _ _ (field (.ref r) 1 >>= _) _ _ _
  refine wpAny_bind (wpAny_field (s := s) hz rfl (x := rawInt i) rfl ?_)
  show wpAny _ _ (if (i : Int) < 0 then _ else _) _ _ _
  rw [if_neg (by omega)]
  refine wpAny_bind (wpAny_specialOf q.typeIs F.slot_tuple_getitem.lookup ?_)
  simp only [Option.isNone_some, Bool.false_eq_true, if_false]
  refine wpAny_bind (wpAny_mkInt (wpAny_bind (wpAny_attempt (PyProof.Rows.getItem_tuple (s := { s with toks := s.toks + 1 }) (j := i) (x := x) q (by omega) (by omega) ?_ hi ?_))))
  · unfold seqIndex?
    simp
    omega
  · refine wpAny_bind (wpAny_field (s := { s with toks := s.toks + 1 }) hz rfl (x := rawInt i) rfl ?_)
    refine wpAny_bind (wpAny_setField_rec (s := { s with toks := s.toks + 1 }) hz (by simp) fun g z1 s1 => ?_)
    exact wpAny_pure ⟨x, rfl, wpAny_pure (K g _ z1 s1)⟩
theorem next_rev_end {r t : Addr} {Q : Option Value → Shared → Prop} (hh : A.handled = none) (hz : RevO s.heap r t (-1))
    (K : ∀ g, (∀ b o, b ≠ r → s.heap.get? b = some o → g.get? b = some o) → Q none { s with heap := g }) : wpAny (model prog w) A (pyNext (.ref r)) Q E s := by
  have hT : s.TypeIs (.ref r) "reversed" := ⟨_, hz, rfl⟩
  unfold pyNext
  refine wpAny_bind (wpAny_attempt (wpAny_callSpecial?_slot (name := Str.ofString "__next__") hT RV.slot_next (wpAny_call_entry RV.slot_next hT RV.entry_next ?_ (RV.args_next _))))
  show wpAny _ _ (field (.ref r) 0 >>= _) _ _ _
  refine wpAny_bind (wpAny_field (s := s) hz rfl (x := .ref t) rfl ?_)
  show wpAny _ _ (field (.ref r) 1 >>= _) _ _ _
  refine wpAny_bind (wpAny_field (s := s) hz rfl (x := rawInt (-1)) rfl ?_)
  show wpAny _ _ (if (-1 : Int) < 0 then _ else _) _ _ _
  rw [if_pos (by decide)]
  refine wpAny_bind (wpAny_rule ?_)
  refine wpAny_bind (m := (do setField (.ref r) 1 (rawInt (-1)); setField (.ref r) 0 .none : Sem Unit)) ?_
  refine wpAny_bind (wpAny_setField_rec hz (by simp) fun g1 z1 s1 => wpAny_setField_rec z1 (by simp) fun g2 z2 s2 => ?_)
  refine wpAny_bind (m := Builtin.SmallTypes.stopIteration) ?_
  unfold Builtin.SmallTypes.stopIteration
  refine wpAny_bind ?_
  simp only [newExc, newTuple]
  refine wpAny_bind (wpAny_newObj_type (wpAny_bind (m := firstArgMember _ _) (wpAny_of_eq (a := Value.none) (by first | rfl | (simp only [firstArgMember]; rfl)) (wpAny_newObj_type ?_ (by size_fits)))) (by size_fits))
  simp only [raiseNew]
  refine wpAny_bind (wpAny_handled ?_)
  first | rw [show A.in1.handled = none from hh] | rw [hh]
  refine wpAny_bind (wpAny_pure (wpAny_throw ?_))
  refine wpAny_bind (wpAny_isInstance (T := "StopIteration") (b := true) ⟨_, Heap.get?_push_size _ rfl, rfl⟩ isSubtype_stop (wpAny_pure (K _ fun b o hb e => ?_)))
  exact Heap.get?_push_of_some _ (Heap.get?_push_of_some _ (s2.extBut _ _ hb (s1.extBut _ _ hb e)))
theorem hint_zip {z TI TO : Addr} {f0 : Value} {f1 : Bool} {Q : Bool → Shared → Prop} (hz : ZipO s.heap z TI TO f0 f1) (h : Q true s) : wpAny (model prog w) A (Builtin.List.listLengthHint (.ref z)) Q E s := by
  have hT : s.TypeIs (.ref z) "zip" := ⟨_, hz, rfl⟩
  unfold Builtin.List.listLengthHint
  refine wpAny_bind (wpAny_specialOf hT RV.zip_nolen ?_)
  show wpAny _ _ (specialOf (Value.ref z) (Str.ofString "__length_hint__") >>= _) _ _ _
  exact wpAny_bind (wpAny_specialOf hT RV.zip_nohint (wpAny_pure h))
theorem hint_rev {r t : Addr} {xs : Array Value} {Q : Bool → Shared → Prop} (hz : RevO s.heap r t ((xs.size : Int) - 1)) (q : s.heap.IsTuple t xs) (hs : xs.size ≤ sizeLine) (h : ∀ b tk, Q b { s with toks := tk }) : wpAny (model prog w) A (Builtin.List.listLengthHint (.ref r)) Q E s := by
  have hT : s.TypeIs (.ref r) "reversed" := ⟨_, hz, rfl⟩
  have hx : (xs.size : Int) < 2 ^ 63 := by have : sizeLine = 16777216 := rfl; omega
  unfold Builtin.List.listLengthHint
  refine wpAny_bind (wpAny_specialOf hT RV.nolen ?_)
  show wpAny _ _ (specialOf (Value.ref r) (Str.ofString "__length_hint__") >>= _) _ _ _
  refine wpAny_bind (wpAny_specialOf hT RV.slot_hint.lookup ?_)
  have e : splitId "reversed.__length_hint__" = some ("reversed", "__length_hint__") := by decide +kernel
  simp only [e]
  refine wpAny_bind (wpAny_isInstance (b := true) hT RV.sub ?_)
  rw [if_neg (by decide), if_neg (by decide +kernel)]
  refine wpAny_bind (wpAny_rule (wpAny_bind (wpAny_of_eq (RV.slot_hint.bind _) ?_)))
  refine wpAny_bind (wpAny_attempt (wpAny_call_entry RV.slot_hint hT RV.entry_hint ?_ (RV.args_hint _)))
  unfold Builtin.«reversed.__length_hint__»
  refine wpAny_bind (m := selfOnly "reversed.__length_hint__" ⟨[.ref r], []⟩) (wpAny_pure ?_)
  refine wpAny_bind (wpAny_field (s := s) hz rfl (x := .ref t) rfl ?_)
  show wpAny _ _ (if (Value.ref t == Value.none) = true then _ else _) _ _ _
  rw [if_neg (show ¬ ((Value.ref t == Value.none) = true) from fun z => nomatch z)]
  refine wpAny_bind (PyProof.Rows.len_tuple q hx ?_)
  refine wpAny_bind (m := asInt? (.int xs.size (s.toks + 1))) (wpAny_pure ?_)
  refine wpAny_bind (wpAny_field (s := { s with toks := s.toks + 1 + 1 }) hz rfl (x := rawInt ((xs.size : Int) - 1)) rfl ?_)
  show wpAny _ _ (if (xs.size : Int) < (xs.size : Int) - 1 + 1 then _ else _) _ _ _
  rw [if_neg (by omega)]
  refine wpAny_bind (wpAny_mkInt (wpAny_pure ⟨_, rfl, ?_⟩))
  refine wpAny_bind (m := asInt? (.int ((xs.size : Int) - 1 + 1) (s.toks + 1 + 1))) (wpAny_pure ?_)
  dsimp only
  have e1 : (xs.size : Int) - 1 + 1 = xs.size := by omega
  rw [e1]
  have e2 : Builtin.List.listFitsIndex (xs.size : Int) = true := by
    unfold Builtin.List.listFitsIndex
    simp
    omega
  rw [if_neg (by rw [e2]; decide), if_neg (by omega), if_neg (by
    show ¬ (decide ((xs.size : Int).toNat > sizeLine)) = true
    simp
    omega)]
  exact wpAny_pure (h _ _)
end
end PySem
set_option Elab.async false
set_option linter.all false
set_option maxRecDepth 100000
set_option maxHeartbeats 4000000
namespace PySem
open Sem (wp)
abbrev LstO (h : Heap) (S : Addr) (us : Array Value) (c : Nat) : Prop := h.get? S = some { cls := .type "list", dict := none, data := .seq us c, slots := #[] }
structure DrawsL (prog : Program) (w : World) (I S : Addr) (T : String) (n : Nat) (St : Nat → Shared → Prop) (Fin' : Shared → Prop) : Prop where
  ty : ∀ s, St 0 s → s.TypeIs (.ref I) T
  self : ∀ s A E (Q : Value → Shared → Prop), St 0 s → Q (.ref I) s → wpAny (model prog w) A (pyIter (.ref I)) Q E s
  hint : ∀ s A E (Q : Bool → Shared → Prop), St 0 s → (∀ b tk, Q b { s with toks := tk }) → wpAny (model prog w) A (Builtin.List.listLengthHint (.ref I)) Q E s
  obj : ∀ s, St 0 s → ∃ c, LstO s.heap S #[] c
  put : ∀ s g tk c, St 0 s → (∀ b o, b ≠ S → s.heap.get? b = some o → g.get? b = some o) → LstO g S #[] c → St 0 { s with heap := g, toks := tk }
  item : ∀ s A E i, A.handled = none → i < n → St i s → wpAny (model prog w) A (pyNext (.ref I)) (fun r s1 => ∃ u us c, r = some u ∧ LstO s1.heap S us c ∧ us.size = i ∧ St (i + 1) { s1 with heap := s1.heap.update S (Obj.mapSeq (·.push u)) }) E s
  done : ∀ s A E, A.handled = none → St n s → wpAny (model prog w) A (pyNext (.ref I)) (fun r s1 => r = none ∧ Fin' s1) E s
section
variable {prog : Program} {w : World} {A : Around} {E : Value → Shared → Prop} {s : Shared} {R : Result → Shared → Prop} {I S : Addr} {T : String} {n : Nat} {St : Nat → Shared → Prop} {Fin' : Shared → Prop}
theorem DrawsL.loop (W : DrawsL prog w I S T n St Fin') (hh : A.handled = none) (hn : n ≤ sizeLine) {res : Value} (hR : ∀ s, Fin' s → R (.ok (.ret res)) s) : ∀ (k i : Nat) (s : Shared), n - i = k → i ≤ n → St i s → codeAny (model prog w) A (.builtin "list.extend.loop" ⟨[.ref S, .ref I, res], []⟩) R s := by
  intro k
  induction k with
  | zero =>
    intro i s hk hi st
    have e : i = n := by omega
    subst e
    refine codeAny_builtin F.entry_extend_loop ?_
    rw [Around.under_plainId F.plain_extend_loop _]
    refine wpAny_bind (wpAny_mono (W.done s _ _ hh st) (fun r s1 q => ?_) fun _ _ e => e)
    obtain ⟨rfl, q⟩ := q
    exact wpAny_pure (hR _ q)
  | succ k ih =>
    intro i s hk hi st
    refine codeAny_builtin F.entry_extend_loop ?_
    rw [Around.under_plainId F.plain_extend_loop _]
    refine wpAny_bind (wpAny_mono (W.item s _ _ i hh (by omega) st) (fun r s1 q => ?_) fun _ _ e => e)
    obtain ⟨u, us, c, rfl, ho, hz, q⟩ := q
    refine wpAny_bind (m := updateSeq S (·.push u)) (wpAny_updateSeq ho rfl (wpAny_pure ⟨plainId_quiet F.plain_extend_loop _, ih (i + 1) _ (by omega) (by omega) q⟩) (by rw [hz]; omega) ?_)
    show (us.push u).size ≤ sizeLine + 1
    rw [Array.size_push, hz]
    omega
theorem DrawsL.extend (W : DrawsL prog w I S T n St Fin') (hT : T = "zip" ∨ T = "reversed") (hne : S ≠ I) (hh : A.handled = none) (hn : n ≤ sizeLine) {res : Value} (hR : ∀ s, Fin' s → R (.ok (.ret res)) s) (st : St 0 s) :
    wpAny (model prog w) A.in1 (Builtin.List.listExtendWith (.ref S) (.ref I) res) (fun fin s' => match fin with | .done f => R (.ok f) s' | .again c' => c'.quiet = true ∧ codeAny (model prog w) A c' R s') (fun e s' => R (.error e) s') s := by
  unfold Builtin.List.listExtendWith
  refine wpAny_bind (wpAny_typeOf (W.ty _ st) ?_)
  have h1 : Builtin.List.listSameRef (.ref S) (.ref I) = false := by simp [Builtin.List.listSameRef, hne]
  have hl := DrawsL.loop (A := A) (res := res) W hh hn hR n 0
  have touch : ∀ (s' : Shared), St 0 s' → wpAny (model prog w) A.in1 (Builtin.List.listTouch (.ref S) >>= fun _ => again (.builtin "list.extend.loop" ⟨[.ref S, .ref I, res], []⟩)) (fun fin s' => match fin with | .done f => R (.ok f) s' | .again c' => c'.quiet = true ∧ codeAny (model prog w) A c' R s') (fun e s' => R (.error e) s') s' := fun s' st' => by
    obtain ⟨c, ho⟩ := W.obj _ st'
    refine wpAny_bind ?_
    refine wpAny_bind (m := updateSeq S (·.push .none)) (wpAny_updateSeq ho rfl ?_ (by decide) (by decide))
    have h2 := Heap.get?_update_self (Obj.mapSeq (·.push Value.none)) ho rfl
    refine wpAny_updateSeq (hz := by seq_fits) h2 rfl ?_
    have h3 := Heap.get?_update_self (Obj.mapSeq (·.pop)) h2 rfl
    exact wpAny_pure ⟨plainId_quiet F.plain_extend_loop _, hl _ (by omega) (Nat.zero_le _) (W.put s' _ s'.toks _ st' (fun b o hb e => (Heap.get?_update_other _ _ (Ne.symm hb)).trans ((Heap.get?_update_other _ _ (Ne.symm hb)).trans e)) h3)⟩
  have stay : ∀ (s' : Shared), St 0 s' → wpAny (model prog w) A.in1 (again (.builtin "list.extend.loop" ⟨[.ref S, .ref I, res], []⟩)) (fun fin s' => match fin with | .done f => R (.ok f) s' | .again c' => c'.quiet = true ∧ codeAny (model prog w) A c' R s') (fun e s' => R (.error e) s') s' := fun s' st' =>
    wpAny_pure ⟨plainId_quiet F.plain_extend_loop _, hl _ (by omega) (Nat.zero_le _) st'⟩
  rcases hT with rfl | rfl
  all_goals
    rw [if_neg (by rw [h1]; decide)]
    refine wpAny_bind (W.self _ _ _ _ st (wpAny_bind (wpAny_holding (W.hint _ _ _ _ st fun b tk => ?_))))
    obtain ⟨c, ho⟩ := W.obj _ st
    have st' := W.put s s.heap tk c st (fun b o _ e => e) ho
    cases b with
    | true =>
      rw [if_pos (by decide)]
      exact wpAny_bind (wpAny_rule (touch _ st'))
    | false =>
      rw [if_neg (by decide)]
      exact stay _ st'
theorem DrawsL.init (W : DrawsL prog w I S T n St Fin') (hT : T = "zip" ∨ T = "reversed") (hne : S ≠ I) (hh : A.handled = none) (hn : n ≤ sizeLine) (hR : ∀ s, Fin' s → R (.ok (.ret .none)) s) (st : St 0 s) :
    wpAny (model prog w) A.in1 (Builtin.«list.__init__» ⟨[.ref S, .ref I], []⟩) (fun fin s' => match fin with | .done f => R (.ok f) s' | .again c' => c'.quiet = true ∧ codeAny (model prog w) A c' R s') (fun e s' => R (.error e) s') s := by
  obtain ⟨c, ho⟩ := W.obj _ st
  refine wpAny_bind (m := Builtin.List.listItems (.ref S)) ?_
  unfold Builtin.List.listItems
  refine wpAny_bind (wpAny_seqItems ho rfl (wpAny_pure ?_))
  refine wpAny_bind (m := updateSeq S (fun _ => #[])) (wpAny_updateSeq ho rfl ?_)
  have h2 := Heap.get?_update_self (Obj.mapSeq (fun _ => (#[] : Array Value))) ho rfl
  refine wpAny_bind (wpAny_letGo ?_)
  exact DrawsL.extend W hT hne hh hn hR (W.put s _ s.toks _ st (fun b o hb e => (Heap.get?_update_other _ _ (Ne.symm hb)).trans e) h2)
theorem DrawsL.call {Q : Value → Shared → Prop} (W : DrawsL prog w I s.heap.objs.size T n St Fin') (hT : T = "zip" ∨ T = "reversed") (hI : I < s.heap.objs.size) (hh : A.handled = none) (hn : n ≤ sizeLine)
    (st : St 0 { s with heap := s.heap.push { cls := .type "list", data := .seq #[] } }) (hQ : ∀ s', Fin' s' → Q (.ref s.heap.objs.size) s') : wpAny (model prog w) A (call (.type "list") [.ref I]) Q E s := by
  refine callType_codes (Q₁ := fun obj s₁ => obj = .ref s.heap.objs.size ∧ s₁ = { s with heap := s.heap.push { cls := .type "list", data := .seq #[] } }) F.called_list (F.typeCall_list_1 _) F.entry_list_init (code_list_new _ ⟨rfl, rfl⟩) fun obj s₁ h₁ => ?_
  obtain ⟨rfl, rfl⟩ := h₁
  exact ⟨⟨_, Heap.get?_push_size _ rfl, rfl⟩, F.args_list_init_2 _ _, DrawsL.init W hT (Nat.ne_of_gt hI) hh hn (fun s' q => ⟨rfl, hQ s' q⟩) st⟩
end
end PySem
set_option Elab.async false
set_option linter.all false
set_option maxRecDepth 100000
set_option maxHeartbeats 4000000
namespace L2
open PySem PySem.Spec PySem.Calls PyProof.Rows
def ItzT (K : PySem.W.Frag) (a b : Addr) : It :=
  ⟨fun i H => ∃ xs ys x y, SqT K H a xs ∧ SqT K H b ys ∧ xs[i]? = some x ∧ ys[i]? = some y, fun i H v H' => ∃ T x y, H T = none ∧ v = .ref T ∧ (∀ xs, SqT K H a xs → xs[i]? = some x) ∧ (∀ ys, SqT K H b ys → ys[i]? = some y) ∧ H' = upd H T (.tup [x, y]),
    fun i H => ∃ xs ys, SqT K H a xs ∧ SqT K H b ys ∧ (xs.length ≤ i ∨ ys.length ≤ i)⟩
theorem nocell_f {vs : Array Value} {v : Option Value} : Data.fields vs ≠ Data.cell v := fun z => nomatch z
theorem nocell_s {vs : Array Value} {n : Nat} {v : Option Value} : Data.seq vs n ≠ Data.cell v := fun z => nomatch z
theorem turn_zipT {P : Program} {w : World} {K : PySem.W.Frag} {es : List Expr} {x1 : Nat} {pos : Pos} (t1 t2 z TI TO i1 i2 : Addr) (D : ZipApart z TI TO i1 i2 t1 t2) :
    Turn P w K (.Tuple es x1 pos) (ItzT K t1 t2) [z, TO, i1, i2, TI] z (fun i h => ZipO h z TI TO .none false ∧ IsPair h TI (.ref i1) (.ref i2) ∧ (∃ a b, IsPair h TO a b) ∧ h.IsTupleIter i1 t1 i ∧ h.IsTupleIter i2 t2 i) where
  mem := by simp
  obj := fun i h st b hb => by
    obtain ⟨h1, h2, ⟨a, c, h3⟩, ⟨o4, e4, c4, d4⟩, ⟨o5, e5, c5, d5⟩⟩ := st
    simp only [List.mem_cons, List.not_mem_nil, or_false] at hb
    rcases hb with rfl | rfl | rfl | rfl | rfl
    · exact ⟨_, h1, fun v => nocell_f⟩
    · exact ⟨_, h3, fun v => nocell_s⟩
    · exact ⟨_, e4, fun v z => by rw [d4] at z; cases z⟩
    · exact ⟨_, e5, fun v z => by rw [d5] at z; cases z⟩
    · exact ⟨_, h2, fun v => nocell_s⟩
  keep := fun i h h' st k => by
    obtain ⟨h1, h2, ⟨a, c, h3⟩, h4, h5⟩ := st
    exact ⟨k z (by simp) _ h1, k TI (by simp) _ h2, ⟨a, c, k TO (by simp) _ h3⟩, h4.at fun o q => k i1 (by simp) o q, h5.at fun o q => k i2 (by simp) o q⟩
  item := by
    intro X hP hw hK hc i pins s σ H E I hf st hg
    subst hP hw hK
    obtain ⟨xs, ys, x, y, hq1, hq2, hx, hy⟩ := hg
    obtain ⟨its1, rv1, p1, _⟩ := I.tuple hq1
    obtain ⟨its2, rv2, p2, _⟩ := I.tuple hq2
    obtain ⟨u, hu, ru⟩ := rv1.get hx
    obtain ⟨v, hv, rv⟩ := rv2.get hy
    obtain ⟨h1, h2, ⟨a, c, h3⟩, h4, h5⟩ := st
    have lts : ∀ b ∈ [z, TO, i1, i2, TI], b < s.heap.objs.size := fun b hb => by
      obtain ⟨_, e4, _⟩ := h4
      obtain ⟨_, e5, _⟩ := h5
      simp only [List.mem_cons, List.not_mem_nil, or_false] at hb
      rcases hb with rfl | rfl | rfl | rfl | rfl
      · exact Heap.lt_size h1
      · exact Heap.lt_size h3
      · exact Heap.lt_size e4
      · exact Heap.lt_size e5
      · exact Heap.lt_size h2
    have zt : ZipT s.heap TI i1 i2 t1 t2 its1.toArray its2.toArray i := ⟨h2, h4, h5, p1, p2⟩
    refine next_zip_item h1 fun A' E' => zipT_free D h1 zt h3 (x := u) (y := v) (by simpa using hu) (by simpa using hv) fun g g1 g2 g3 g5 sz kp => ?_
    refine ⟨_, rfl, go_zipT g1 fun hh gz sb => ?_⟩
    have zT : z ≠ s.heap.objs.size := Nat.ne_of_lt (lts z (by simp))
    have kp2 : ∀ b o, b ∉ [z, TO, i1, i2, TI] → s.heap.get? b = some o → hh.get? b = some o := fun b o hb q => by
      simp only [List.mem_cons, List.not_mem_nil, or_false, not_or] at hb
      exact (sb.2 b hb.1).trans (kp b o hb.1 hb.2.1 hb.2.2.1 hb.2.2.2.1 q)
    refine ⟨.ref s.heap.objs.size, upd H s.heap.objs.size (.tup [x, y]), ?_, rfl, ⟨s.heap.objs.size, x, y, I.hok.fresh (Nat.le_refl _), rfl, fun ws hw => by rw [I.tuple_inj hw hq1]; exact hx, fun ws hw => by rw [I.tuple_inj hw hq2]; exact hy, rfl⟩,
      ⟨gz, (sb.2 TI D.TIz).trans g3.pr, ⟨u, v, (sb.2 TO D.TOz).trans g2⟩, g3.a1.at fun o q => (sb.2 i1 D.i1z).trans q, g3.a2.at fun o q => (sb.2 i2 D.i2z).trans q⟩, fun b hb => ?_⟩
    · exact I.drawn (t' := s.toks) (us := [u, v]) (n := 0) hf kp2 ((sb.2 _ (Ne.symm zT)).trans g5) (.cons ru (.cons rv .nil)) (by show 2 ≤ sizeLine; decide)
    · rw [upd_ne (Nat.ne_of_lt (lts b hb))]
      exact (hf b hb).1
  done := by
    intro X hP hw hK hc i pins s σ H E I hf st hg
    subst hP hw hK
    obtain ⟨xs, ys, hq1, hq2, hx⟩ := hg
    obtain ⟨its1, rv1, p1, _⟩ := I.tuple hq1
    obtain ⟨its2, rv2, p2, _⟩ := I.tuple hq2
    obtain ⟨h1, h2, ⟨a, c, h3⟩, h4, h5⟩ := st
    have e1 := rv1.length
    have e2 := rv2.length
    have zt : ZipT s.heap TI i1 i2 t1 t2 its1.toArray its2.toArray i := ⟨h2, h4, h5, p1, p2⟩
    refine next_zip_end h1 (I.ok.hd hc) fun A' Q' E' hh k => zipT_end hh D h1 (.inl ⟨rfl, rfl⟩) zt h3 (hx.elim (fun q => .inl (by simp; omega)) fun q => .inr (by simp; omega)) fun g e kp ho => k e _ ho ⟨rfl, I.turnedL (t' := s.toks) hf fun b o hb q => ?_⟩
    simp only [List.mem_cons, List.not_mem_nil, or_false, not_or] at hb
    exact kp b o hb.1 hb.2.1 hb.2.2.1 hb.2.2.2.1 q
  self := fun _ _ _ _ _ st h => iter_zipT st.1 h
def iZipT (K : PySem.W.Frag) (ta : TA) : TI := fun σ H R => ta σ H fun vs H1 => ∃ a b xs ys, vs = [.ref a, .ref b] ∧ SqT K H1 a xs ∧ SqT K H1 b ys ∧ R (ItzT K a b) H1
theorem fp5 {X : Cx} {pins : List (Addr × Obj)} {σ : St} {H : Hp} {s1 : Shared} (I1 : Inv X pins σ H s1) : ∀ b ∈ [s1.heap.objs.size + 4, s1.heap.objs.size + 3, s1.heap.objs.size, s1.heap.objs.size + 1, s1.heap.objs.size + 2], s1.heap.objs.size ≤ b ∧ b < s1.heap.objs.size + 5 ∧ FpOk X pins H b := fun b hb => by
  have hb' : s1.heap.objs.size ≤ b ∧ b < s1.heap.objs.size + 5 := by
    simp only [List.mem_cons, List.not_mem_nil, or_false] at hb
    omega
  exact ⟨hb'.1, hb'.2, I1.fpOk hb'.1 (I1.hok.fresh hb'.1)⟩
theorem pi_zipT {X : Cx} {es : List Expr} {x1 : Nat} {tpos : Pos} {a b : Expr} {ta : TA} {p pos : Pos} (hg : Gl X "zip") (hm : X.mg "zip" = none) (ha : PA X [a, b] ta) (hs : starEach [a, b] X.env = [(false, eval a X.env), (false, eval b X.env)] := by rfl) (hs2 : starEach [b] X.env = [(false, eval b X.env)] := by rfl) :
    PI X (.Tuple es x1 tpos) (.Call (.Name "zip" p) [a, b] [] pos) (iZipT X.K ta) := by
  intro pins s σ H R I h
  refine Call_ (ld_blt I hg hm boot_zip (PyProof.Rows.callWith_type1 (thn (ha pos pins s σ H _ I h) fun us s1 ⟨vs, H1, I1, r1, q1⟩ => ?_) (by rw [hs, hs2]) (by rw [hs2]; rfl)))
  obtain ⟨l1, l2, xs, ys, e, hl1, hl2, q⟩ := q1
  subst e
  cases r1 with
  | cons r rr =>
    cases rr with
    | cons r' rr =>
      cases rr
      cases r
      cases r'
      obtain ⟨its1, rv1, p1, _⟩ := I1.tuple hl1
      obtain ⟨its2, rv2, p2, _⟩ := I1.tuple hl2
      have lt1 : l1 < s1.heap.objs.size := by obtain ⟨_, e, _⟩ := p1; exact Heap.lt_size e
      have lt2 : l2 < s1.heap.objs.size := by obtain ⟨_, e, _⟩ := p2; exact Heap.lt_size e
      refine call_zipT p1 p2 fun h' g1 g2 g3 sz kp => ?_
      refine iter_zipT g1 ?_
      exact ⟨_, [s1.heap.objs.size + 4, s1.heap.objs.size + 3, s1.heap.objs.size, s1.heap.objs.size + 1, s1.heap.objs.size + 2], _, _, H1, rfl, I1.kept (t' := s1.toks) kp, turn_zipT l1 l2 _ _ _ _ _ (zipApart_new lt1 lt2), ⟨g1, g2.pr, ⟨.none, .none, g3⟩, g2.a1, g2.a2⟩, fun b hb => (fp5 I1 b hb).2.2, q⟩
end L2
namespace L3
open PySem PySem.Spec PySem.Calls PyProof.Rows L2
section
variable {X : Cx} {Γ : Ga} {ds es : List D} {pos p : Pos} {a b : Expr}
theorem i_zipT {es' : List Expr} {x1 : Nat} {tpos : Pos} (hm : X.mg "zip" = none) (hg : Gl X "zip") (ha : P3 X Γ a (.tup ds)) (hb : P3 X Γ b (.tup es)) (hs : starEach [a, b] X.env = [(false, eval a X.env), (false, eval b X.env)] := by rfl) (hs2 : starEach [b] X.env = [(false, eval b X.env)] := by rfl) :
    I3 X Γ (.Tuple es' x1 tpos) (.Call (.Name "zip" p) [a, b] [] pos) (zipD ds es) :=
  PI.of (pi_zipT hg hm (pl_cons ha (pl_cons hb pl_nil hs2) (hs.trans (by rw [hs2]))) hs hs2) fun σ H R ⟨F, fh, sl, q⟩ => ⟨F, fh, sl, fun vs H' F' pu iv => by
    obtain ⟨x, y, rfl, j0, j00⟩ := isL2 iv
    obtain ⟨l, xs, rfl, s1, j1⟩ := isT j0
    obtain ⟨l2, ys, rfl, s2, j2⟩ := isT j00
    refine ⟨l, l2, xs, ys, rfl, same_tup pu.fh s1, same_tup pu.fh s2, q _ H' F' pu fun n F2 H2 e1 e2 => ⟨fun d w => ?_, fun w => ?_⟩⟩
    · unfold zipD at w
      rw [List.getElem?_map] at w
      cases z : (ds.zip es)[n]? with
      | none => rw [z] at w; cases w
      | some d0 =>
        rw [z] at w
        cases w
        obtain ⟨z1, z2⟩ := List.getElem?_zip_eq_some.mp z
        obtain ⟨x, hx, ix⟩ := j1.get z1
        obtain ⟨y, hy, iy⟩ := j2.get z2
        have h1 := same_tup (e1.trans e2) s1
        have h2 := same_tup (e1.trans e2) s2
        refine ⟨⟨xs, ys, x, y, h1, h2, hx, hy⟩, fun v H3 ⟨T, x', y', hT, hv, hx', hy', e3⟩ => ?_⟩
        subst hv e3
        have t1 := hx' xs h1
        have t2 := hy' ys h2
        rw [hx] at t1
        rw [hy] at t2
        cases t1
        cases t2
        exact ⟨_, Pur.lay e2 hT, Is.tupI (.inl (.inl upd_same)) (IsL.cons (ix.mono (e1.trans (Pur.lay e2 hT).ff)) (IsL.cons (iy.mono (e1.trans (Pur.lay e2 hT).ff)) IsL.nil))⟩
    · unfold zipD at w
      rw [List.length_map, List.length_zip] at w
      refine ⟨xs, ys, same_tup (e1.trans e2) s1, same_tup (e1.trans e2) s2, ?_⟩
      rw [j1.len, j2.len]
      omega⟩
end
end L3
set_option Elab.async false
set_option linter.all false
set_option maxRecDepth 100000
set_option maxHeartbeats 4000000
namespace L3
open PySem PySem.Spec PySem.Calls PyProof.Rows L2
theorem Pur.setOwn {F H F1 H1 : Hp} {S : Addr} {o : HO} (p : Pur F H F1 H1) (h : H S = none) (f : F1 S = none) : Pur F H F1 (upd H1 S o) :=
  ⟨p.ff, fun b u e => by rw [upd_ne (ne_of_none e f)]; exact p.fh _ _ e, fun b u e => by rw [upd_ne (ne_of_none e h)]; exact p.hh _ _ e, p.new⟩
structure St3 (X : Cx) (pins : List (Addr × Obj)) (σ : L2.St) (F H1 : Hp) (S : Addr) (fp : List Addr) (ws : List D) (ZS : Nat → Heap → Prop) (i : Nat) (s : Shared) (H2 F2 : Hp) (vs : List V) : Prop where
  inv : Inv X pins σ H2 s
  pur : Pur F H1 F2 H2
  lst : H2 S = some (.lst vs)
  non : F2 S = none
  iss : IsL X.K F2 (ws.take i) vs
  fps : ∀ b ∈ fp, FpOk X pins H2 b
  zs : ZS i s.heap
section
variable {X : Cx} {pins : List (Addr × Obj)} {σ : L2.St} {F H1 : Hp} {I S : Addr} {T : String} {fp : List Addr} {ws : List D} {ZS : Nat → Heap → Prop}
theorem fpOk_upd {H : Hp} {b : Addr} {o : HO} (h : FpOk X pins H b) (hb : b ≠ S) : FpOk X pins (upd H S o) b := ⟨by rw [upd_ne hb]; exact h.1, h.2⟩
theorem draws3 (hS : H1 S = none) (hf : S ∉ fp) (hn : ws.length ≤ sizeLine)
    (zk : ∀ i h h', ZS i h → (∀ b o, b ≠ S → h.get? b = some o → h'.get? b = some o) → ZS i h')
    (ty : ∀ (s : Shared), ZS 0 s.heap → s.TypeIs (.ref I) T)
    (self : ∀ (s : Shared) A E (Q : Value → Shared → Prop), ZS 0 s.heap → Q (.ref I) s → wpAny (model X.prog X.w) A (pyIter (.ref I)) Q E s)
    (hint : ∀ (s : Shared) H2 A E (Q : Bool → Shared → Prop), Inv X pins σ H2 s → Same F H2 → ZS 0 s.heap → (∀ b tk, Q b { s with toks := tk }) → wpAny (model X.prog X.w) A (Builtin.List.listLengthHint (.ref I)) Q E s)
    (item : ∀ (s : Shared) H2 F2 A E i d, A.handled = none → Inv X pins σ H2 s → Same F F2 → Same F2 H2 → (∀ b ∈ fp, FpOk X pins H2 b) → H2 S ≠ none → ZS i s.heap → ws[i]? = some d → wpAny (model X.prog X.w) A (pyNext (.ref I)) (fun r s' => ∃ u x H3 F3, r = some u ∧ RelV x u ∧ Inv X pins σ H3 s' ∧ Pur F2 H2 F3 H3 ∧ (∀ b ∈ fp, H3 b = none) ∧ Is X.K F3 d x ∧ ZS (i + 1) s'.heap) E s)
    (done : ∀ (s : Shared) H2 A E, A.handled = none → Inv X pins σ H2 s → Same F H2 → (∀ b ∈ fp, FpOk X pins H2 b) → ZS ws.length s.heap → wpAny (model X.prog X.w) A (pyNext (.ref I)) (fun r s' => r = none ∧ Inv X pins σ H2 s') E s) :
    DrawsL X.prog X.w I S T ws.length (fun i s => ∃ H2 F2 vs, St3 X pins σ F H1 S fp ws ZS i s H2 F2 vs) (fun s => ∃ H2 F2 vs, Inv X pins σ H2 s ∧ Pur F H1 F2 H2 ∧ H2 S = some (.lst vs) ∧ F2 S = none ∧ IsL X.K F2 ws vs) where
  ty := fun s ⟨_, _, _, q⟩ => ty s q.zs
  self := fun s A E Q ⟨_, _, _, q⟩ h => self s A E Q q.zs h
  hint := fun s A E Q ⟨H2, _, _, q⟩ h => hint s H2 A E Q q.inv (q.pur.ff.trans q.pur.fh) q.zs h
  obj := fun s ⟨H2, F2, vs, q⟩ => by
    obtain ⟨_, its, n, r, hl, e⟩ := q.inv.lstM q.lst
    have := q.iss.len
    rw [List.take_zero, List.length_nil] at this
    have e0 : its = [] := List.length_eq_zero_iff.mp (by omega)
    subst e0
    exact ⟨n, e⟩
  put := fun s g tk c ⟨H2, F2, vs, q⟩ kp ho => by
    have := q.iss.len
    rw [List.take_zero, List.length_nil] at this
    have e0 : vs = [] := List.length_eq_zero_iff.mp this
    subst e0
    refine ⟨upd H2 S (.lst []), F2, [], ?_, q.pur.setOwn hS q.non, upd_same, q.non, q.iss, fun b hb => fpOk_upd (q.fps b hb) fun z => hf (z ▸ hb), zk _ _ _ q.zs kp⟩
    exact q.inv.write (t' := tk) (x := S) (e := S) (by rw [q.lst]; exact trivial) (.inl rfl) kp ⟨_, ho⟩ ⟨Nat.zero_le _, [], c, .nil, ho⟩
  item := fun s A E i hh hi ⟨H2, F2, vs, q⟩ => by
    obtain ⟨d, hd⟩ : ∃ d, ws[i]? = some d := ⟨_, List.getElem?_eq_getElem hi⟩
    refine wpAny_mono (item s H2 F2 A E i d hh q.inv q.pur.ff q.pur.fh q.fps (by rw [q.lst]; exact fun h => nomatch h) q.zs hd) (fun r s' z => ?_) fun _ _ e => e
    obtain ⟨u, x, H3, F3, rfl, rx, I3, p3, f3, ix, z3⟩ := z
    have l3 := p3.hh _ _ q.lst
    have n3 : F3 S = none := by
      cases z : F3 S with
      | none => rfl
      | some o =>
        rcases p3.new S (by rw [z]; exact fun h => nomatch h) with c | c
        · exact absurd q.non c
        · rw [q.lst] at c; cases c
    obtain ⟨hz, its, n, r, hl, e⟩ := I3.lstM l3
    have ln := q.iss.len
    rw [List.length_take, Nat.min_eq_left (Nat.le_of_lt hi)] at ln
    refine ⟨u, its.toArray, n, rfl, e, by rw [List.size_toArray]; omega, upd H3 S (.lst (vs ++ [x])), F3, vs ++ [x], ?_, (q.pur.trans p3).setOwn hS n3, upd_same, n3, ?_, fun b hb => ?_, ?_⟩
    · exact I3.lset (t' := s'.toks) (its' := its ++ [u]) l3 e (by simp) (r.append (.cons rx .nil)) (by rw [List.length_append, List.length_singleton]; omega)
    · rw [List.take_succ, hd]
      exact (q.iss.mono p3.ff).append (IsL.cons ix IsL.nil)
    · exact fpOk_upd ⟨f3 b hb, (q.fps b hb).2⟩ fun z => hf (z ▸ hb)
    · exact zk _ _ _ z3 fun b o hb e => (Heap.get?_update_other _ _ (Ne.symm hb)).trans e
  done := fun s A E hh ⟨H2, F2, vs, q⟩ => wpAny_mono (done s H2 A E hh q.inv (q.pur.ff.trans q.pur.fh) q.fps q.zs) (fun r s' z => ⟨z.1, H2, F2, vs, z.2, q.pur, q.lst, q.non, by have := q.iss; rw [List.take_length] at this; exact this⟩) fun _ _ e => e
end
section
variable {X : Cx} {Γ : Ga} {ds es : List D} {pos p pos' p' : Pos} {a b : Expr}
theorem ev_list {inner : Expr} {pins : List (Addr × Obj)} {σ : L2.St} {H : Hp} {s : Shared} {Q : Value → Shared → Prop} (I : Inv X pins σ H s) (hm : X.mg "list" = none) (hg : Gl X "list") (he : starEach [inner] X.env = (false, eval inner X.env) :: starEach [] X.env)
    (h : wpAny (model X.prog X.w) X.A (eval inner X.env) (fun v s1 => wpAny (model X.prog X.w) X.A (call (.type "list") [v]) Q X.xe s1) X.xe s) : wpAny (model X.prog X.w) X.A (eval (.Call (.Name "list" p) [inner] [] pos) X.env) Q X.xe s := by
  refine wpAny_Call_Name_kw (ld_blt I hg hm bt_list (PyProof.Rows.callWith_type1 ?_ he))
  rw [he]
  show wpAny _ _ (spliced ((false, eval inner X.env) :: backTo pos (starEach [] X.env))) _ _ s
  exact Calls.spliced_cons (wpAny_mono h (fun v s1 q => Calls.spliced_nil q) fun _ _ e => e)
theorem zipD_len : (zipD ds es).length = min ds.length es.length := by unfold zipD; rw [List.length_map, List.length_zip]
theorem pf_listZip (hc : X.calm = true) (hm : X.mg "list" = none) (hg : Gl X "list") (hm2 : X.mg "zip" = none) (hg2 : Gl X "zip") (ha : P3 X Γ a (.tup ds)) (hb : P3 X Γ b (.tup es)) (hs : starEach [a, b] X.env = [(false, eval a X.env), (false, eval b X.env)] := by rfl) (hs2 : starEach [b] X.env = [(false, eval b X.env)] := by rfl)
    (he : starEach [.Call (.Name "zip" p') [a, b] [] pos'] X.env = (false, eval (.Call (.Name "zip" p') [a, b] [] pos') X.env) :: starEach [] X.env := by rfl) : PF3 X Γ (.Call (.Name "list" p) [.Call (.Name "zip" p') [a, b] [] pos'] [] pos) (zipD ds es) := by
  intro pins s σ H Q I ⟨F, fh, sl, q⟩
  have pl := pl_cons ha (pl_cons hb pl_nil hs2) (hs.trans (by rw [hs2]))
  refine ev_list I hm hg he (Call_ (ld_blt I hg2 hm2 boot_zip (PyProof.Rows.callWith_type1 (thn (pl pos' pins s σ H (fun vs H' => ∃ F', Pur F H F' H' ∧ IsL X.K F' [.tup ds, .tup es] vs) I ⟨F, fh, sl, fun vs H' F' pu iv => ⟨F', pu, iv⟩⟩) fun us s1 ⟨vs, H1, I1, r1, q1⟩ => ?_) (by rw [hs, hs2]) (by rw [hs2]; rfl))))
  obtain ⟨F1, pu, iv⟩ := q1
  obtain ⟨x, y, rfl, j0, j00⟩ := isL2 iv
  obtain ⟨l1, xs, rfl, s1', j1⟩ := isT j0
  obtain ⟨l2, ys, rfl, s2', j2⟩ := isT j00
  cases r1 with
  | cons r rr =>
    cases rr with
    | cons r' rr =>
      cases rr
      cases r
      cases r'
      obtain ⟨its1, rv1, p1, z1⟩ := I1.tuple (same_tup pu.fh s1')
      obtain ⟨its2, rv2, p2, z2⟩ := I1.tuple (same_tup pu.fh s2')
      have lt1 : l1 < s1.heap.objs.size := by obtain ⟨_, e, _⟩ := p1; exact Heap.lt_size e
      have lt2 : l2 < s1.heap.objs.size := by obtain ⟨_, e, _⟩ := p2; exact Heap.lt_size e
      refine call_zipT p1 p2 fun g g1 g2 g3 sz kp => ?_
      have I2 : Inv X pins σ H1 { s1 with heap := g } := I1.kept (t' := s1.toks) kp
      have D : ZipApart (s1.heap.objs.size + 4) (s1.heap.objs.size + 2) (s1.heap.objs.size + 3) s1.heap.objs.size (s1.heap.objs.size + 1) l1 l2 := zipApart_new lt1 lt2
      have eS : ({ s1 with heap := g } : Shared).heap.objs.size = s1.heap.objs.size + 5 := sz
      have hS : H1 (s1.heap.objs.size + 5) = none := I1.hok.fresh (by omega)
      have hlen1 := rv1.length
      have hlen2 := rv2.length
      have jl1 := j1.len
      have jl2 := j2.len
      have W := draws3 (X := X) (pins := pins) (σ := σ) (F := F1) (H1 := H1) (I := s1.heap.objs.size + 4) (S := s1.heap.objs.size + 5) (T := "zip") (fp := [s1.heap.objs.size + 4, s1.heap.objs.size + 3, s1.heap.objs.size, s1.heap.objs.size + 1, s1.heap.objs.size + 2]) (ws := zipD ds es)
        (ZS := fun i h => IsPair h (s1.heap.objs.size + 2) (.ref s1.heap.objs.size) (.ref (s1.heap.objs.size + 1)) ∧ h.IsTupleIter s1.heap.objs.size l1 i ∧ h.IsTupleIter (s1.heap.objs.size + 1) l2 i ∧ (∃ a b, IsPair h (s1.heap.objs.size + 3) a b) ∧ ∃ f0 f1, ZipO h (s1.heap.objs.size + 4) (s1.heap.objs.size + 2) (s1.heap.objs.size + 3) f0 f1 ∧ ((f0 = .none ∧ f1 = false) ∨ ∃ T o, f0 = rawInt (T : Nat) ∧ h.get? T = some o ∧ s1.heap.objs.size + 5 < T))
        hS (by simp) (by rw [zipD_len]; omega)
        (by
          rintro i h h' ⟨c1, c2, c3, ⟨a', b', c4⟩, f0, f1, c5, c6⟩ k
          refine ⟨k _ _ (show (_ : Nat) ≠ _ by omega) c1, c2.at fun o e => k _ o (show (_ : Nat) ≠ _ by omega) e, c3.at fun o e => k _ o (show (_ : Nat) ≠ _ by omega) e, ⟨a', b', k _ _ (show (_ : Nat) ≠ _ by omega) c4⟩, f0, f1, k _ _ (show (_ : Nat) ≠ _ by omega) c5, c6.imp id ?_⟩
          rintro ⟨T, o, e1, e2, e3⟩
          exact ⟨T, o, e1, k _ _ (show (_ : Nat) ≠ _ by omega) e2, e3⟩)
        (fun s ⟨_, _, _, _, f0, f1, c5, _⟩ => ⟨_, c5, rfl⟩)
        (fun s A E Q ⟨_, _, _, _, f0, f1, c5, _⟩ h => iter_zipT c5 h)
        (fun s H2 A E Q _ _ ⟨_, _, _, _, f0, f1, c5, _⟩ h => hint_zip c5 (h true s.toks))
        (by
          rintro s H2 F2 A E i d hh I3 ff fh2 fps nS ⟨c1, c2, c3, ⟨a', b', c4⟩, f0, f1, c5, c6⟩ hd
          unfold zipD at hd
          rw [List.getElem?_map] at hd
          cases z : (ds.zip es)[i]? with
          | none => rw [z] at hd; cases hd
          | some d0 =>
            rw [z] at hd
            cases hd
            obtain ⟨y1, y2⟩ := List.getElem?_zip_eq_some.mp z
            obtain ⟨x, hx, ix⟩ := j1.get y1
            obtain ⟨y, hy, iy⟩ := j2.get y2
            obtain ⟨is1, w1, t1, _⟩ := I3.tuple (same_tup (ff.trans fh2) s1')
            obtain ⟨is2, w2, t2, _⟩ := I3.tuple (same_tup (ff.trans fh2) s2')
            obtain ⟨u, hu, ru⟩ := w1.get hx
            obtain ⟨v, hv, rv⟩ := w2.get hy
            have zt : ZipT s.heap (s1.heap.objs.size + 2) s1.heap.objs.size (s1.heap.objs.size + 1) l1 l2 is1.toArray is2.toArray i := ⟨c1, c2, c3, t1, t2⟩
            have hT : H2 s.heap.objs.size = none := I3.hok.fresh (Nat.le_refl _)
            have lS : s1.heap.objs.size + 4 < s.heap.objs.size := Heap.lt_size c5
            have fin : ∀ (g : Heap), (∀ b o, b ≠ s1.heap.objs.size + 4 → b ≠ s1.heap.objs.size + 3 → b ≠ s1.heap.objs.size → b ≠ s1.heap.objs.size + 1 → s.heap.get? b = some o → g.get? b = some o) → IsPair g s.heap.objs.size u v → ∃ H3 F3, Inv X pins σ H3 { s with heap := g } ∧ Pur F2 H2 F3 H3 ∧ (∀ b ∈ [s1.heap.objs.size + 4, s1.heap.objs.size + 3, s1.heap.objs.size, s1.heap.objs.size + 1, s1.heap.objs.size + 2], H3 b = none) ∧ Is X.K F3 (.tup [d0.1, d0.2]) (.ref s.heap.objs.size) := fun g kg ng => by
              refine ⟨upd H2 s.heap.objs.size (.tup [x, y]), upd F2 s.heap.objs.size (.tup [x, y]), I3.drawn (t' := s.toks) (us := [u, v]) (n := 0) fps (fun b o hb e => ?_) ng (.cons ru (.cons rv .nil)) (by show 2 ≤ sizeLine; decide), Pur.lay fh2 hT, fun b hb => ?_, Is.tupI (.inl (.inl upd_same)) (IsL.cons (ix.mono (ff.trans (Pur.lay fh2 hT).ff)) (IsL.cons (iy.mono (ff.trans (Pur.lay fh2 hT).ff)) IsL.nil))⟩
              · simp only [List.mem_cons, List.not_mem_nil, or_false, not_or] at hb
                exact kg b o hb.1 hb.2.1 hb.2.2.1 hb.2.2.2.1 e
              · have lb : b ≠ s.heap.objs.size := by
                  simp only [List.mem_cons, List.not_mem_nil, or_false] at hb
                  omega
                rw [upd_ne lb]
                exact (fps b hb).1
            rcases c6 with ⟨rfl, rfl⟩ | ⟨T, o, rfl, e2, e3⟩
            · refine next_zip_item c5 fun A' E' => zipT_free D c5 zt c4 (x := u) (y := v) (by simpa using hu) (by simpa using hv) fun g k1 k2 k3 k4 k5 k6 => ?_
              obtain ⟨H3, F3, m1, m2, m3, m4⟩ := fin g k6 k4
              have hs5 : s.heap.objs.size ≠ s1.heap.objs.size + 5 := fun z => nS (by rw [← z]; exact hT)
              exact ⟨_, .ref s.heap.objs.size, H3, F3, rfl, rfl, m1, m2, m3, m4, k3.pr, k3.a1, k3.a2, ⟨u, v, k2⟩, _, _, k1, .inr ⟨s.heap.objs.size, _, rfl, k4, by omega⟩⟩
            · refine next_zip_item c5 fun A' E' => zipT_held D c5 zt e2 (x := u) (y := v) (by simpa using hu) (by simpa using hv) fun g k1 k3 k4 k5 k6 => ?_
              obtain ⟨H3, F3, m1, m2, m3, m4⟩ := fin g (fun b o b1 b2 b3 b4 e => k6 b o b1 b3 b4 e) k4
              exact ⟨_, .ref s.heap.objs.size, H3, F3, rfl, rfl, m1, m2, m3, m4, k3.pr, k3.a1, k3.a2, ⟨a', b', k6 _ _ (show (_ : Nat) ≠ _ by omega) (show (_ : Nat) ≠ _ by omega) (show (_ : Nat) ≠ _ by omega) c4⟩, _, _, k1, .inr ⟨T, o, rfl, k6 _ _ (show (_ : Nat) ≠ _ by omega) (show (_ : Nat) ≠ _ by omega) (show (_ : Nat) ≠ _ by omega) e2, e3⟩⟩)
        (by
          rintro s H2 A E hh I3 ff fps ⟨c1, c2, c3, ⟨a', b', c4⟩, f0, f1, c5, c6⟩
          obtain ⟨is1, w1, t1, _⟩ := I3.tuple (same_tup ff s1')
          obtain ⟨is2, w2, t2, _⟩ := I3.tuple (same_tup ff s2')
          have e1 := w1.length
          have e2 := w2.length
          rw [zipD_len] at c2 c3
          have zt : ZipT s.heap (s1.heap.objs.size + 2) s1.heap.objs.size (s1.heap.objs.size + 1) l1 l2 is1.toArray is2.toArray (min ds.length es.length) := ⟨c1, c2, c3, t1, t2⟩
          refine next_zip_end c5 hh fun A' Q' E' hh' k => zipT_end hh' D c5 (c6.imp id fun ⟨T, o, e1, e2, _⟩ => ⟨T, o, e1, e2⟩) zt c4 ?_ fun g e kp ho => k e _ ho ⟨rfl, I3.turnedL (t' := s.toks) fps fun b o hb q => ?_⟩
          · rcases Nat.le_total ds.length es.length with h | h
            · exact .inl (by simp; omega)
            · exact .inr (by simp; omega)
          · simp only [List.mem_cons, List.not_mem_nil, or_false, not_or] at hb
            exact kp b o hb.1 hb.2.1 hb.2.2.1 hb.2.2.2.1 q)
      have st0 : Inv X pins σ (upd H1 (s1.heap.objs.size + 5) (.lst [])) { s1 with heap := g.push { cls := .type "list", data := .seq #[] } } := by
        have := I2.lnew (t' := s1.toks) (ys := []) (its := []) .nil (Nat.zero_le _)
        rw [eS] at this
        exact this
      rw [← eS] at W
      refine DrawsL.call W (.inl rfl) (by rw [eS]; exact Nat.lt_succ_self _) (I1.ok.hd hc) (by rw [zipD_len]; omega) ⟨upd H1 (s1.heap.objs.size + 5) (.lst []), F1, [], st0, (Pur.refl pu.fh).setOwn hS (pu.fh.free hS), by rw [eS]; exact upd_same, by rw [eS]; exact pu.fh.free hS, IsL.nil, fun b hb => fpOk_upd (fp5 I1 b hb).2.2 (Nat.ne_of_lt (fp5 I1 b hb).2.1), ?_⟩ ?_
      · have up : ∀ b o, g.get? b = some o → (g.push { cls := .type "list", data := .seq #[] }).get? b = some o := fun b o e => Heap.get?_push_of_some _ e
        exact ⟨up _ _ g2.pr, g2.a1.at fun o e => up _ o e, g2.a2.at fun o e => up _ o e, ⟨_, _, up _ _ g3⟩, _, _, up _ _ g1, .inl ⟨rfl, rfl⟩⟩
      · rw [eS]
        rintro s' ⟨H2, F2, vs, i2, p2, l2, n2, iw⟩
        exact ⟨.ref (s1.heap.objs.size + 5), H2, i2, rfl, q _ vs H2 F2 (pu.trans p2) (pu.hh.free hS) n2 l2 iw⟩
theorem bt_reversed : bootBuiltins "reversed" = some (.type "reversed") := by decide +kernel
theorem pf_listRev (hc : X.calm = true) (hm : X.mg "list" = none) (hg : Gl X "list") (hm2 : X.mg "reversed" = none) (hg2 : Gl X "reversed") (ha : P3 X Γ a (.tup ds)) (hs2 : starEach [a] X.env = (false, eval a X.env) :: starEach [] X.env := by rfl)
    (he : starEach [.Call (.Name "reversed" p') [a] [] pos'] X.env = (false, eval (.Call (.Name "reversed" p') [a] [] pos') X.env) :: starEach [] X.env := by rfl) : PF3 X Γ (.Call (.Name "list" p) [.Call (.Name "reversed" p') [a] [] pos'] [] pos) ds.reverse := by
  intro pins s σ H Q I ⟨F, fh, sl, q⟩
  have pl := pl_cons ha pl_nil hs2
  refine ev_list I hm hg he (Call_ (ld_blt I hg2 hm2 bt_reversed (PyProof.Rows.callWith_type1 (thn (pl pos' pins s σ H (fun vs H' => ∃ F', Pur F H F' H' ∧ IsL X.K F' [.tup ds] vs) I ⟨F, fh, sl, fun vs H' F' pu iv => ⟨F', pu, iv⟩⟩) fun us s1 ⟨vs, H1, I1, r1, q1⟩ => ?_) hs2)))
  obtain ⟨F1, pu, iv⟩ := q1
  obtain ⟨x, rfl, j0⟩ := isL1 iv
  obtain ⟨l1, xs, rfl, s1', j1⟩ := isT j0
  cases r1 with
  | cons r rr =>
    cases rr
    cases r
    obtain ⟨its1, rv1, p1, z1⟩ := I1.tuple (same_tup pu.fh s1')
    have hlen1 := rv1.length
    have jl1 := j1.len
    have lt1 : l1 < s1.heap.objs.size := by obtain ⟨_, e, _⟩ := p1; exact Heap.lt_size e
    have sl63 : sizeLine = 16777216 := rfl
    refine call_rev p1 (by rw [List.size_toArray]; omega) fun g tk g1 kp => ?_
    have I2 : Inv X pins σ H1 { s1 with heap := g, toks := tk } := I1.kept (t' := tk) kp
    have hr : s1.heap.objs.size < g.objs.size := Heap.lt_size g1
    have hS : H1 g.objs.size = none := I1.hok.fresh (Nat.le_of_lt hr)
    have ln : its1.toArray.size = ds.length := by rw [List.size_toArray]; omega
    rw [ln] at g1
    have W := draws3 (X := X) (pins := pins) (σ := σ) (F := F1) (H1 := H1) (I := s1.heap.objs.size) (S := g.objs.size) (T := "reversed") (fp := [s1.heap.objs.size]) (ws := ds.reverse) (ZS := fun i h => RevO h s1.heap.objs.size l1 ((ds.length : Int) - 1 - i))
      hS (by simpa using Nat.ne_of_gt hr) (by rw [List.length_reverse]; omega)
      (fun i h h' z k => k _ _ (Nat.ne_of_lt hr) z)
      (fun s z => ⟨_, z, rfl⟩)
      (fun s A E Q z h => iter_rev z h)
      (fun s H2 A E Q I3 ff z h => by
        obtain ⟨is1, w1, t1, zz⟩ := I3.tuple (same_tup ff s1')
        have e1 := w1.length
        have e2 : (is1.toArray.size : Int) - 1 = (ds.length : Int) - 1 - (0 : Nat) := by rw [List.size_toArray]; omega
        refine hint_rev (xs := is1.toArray) ?_ t1 (by rw [List.size_toArray]; omega) h
        rw [e2]
        exact z)
      (by
        rintro s H2 F2 A E i d hh I3 ff fh2 fps nS z hd
        obtain ⟨is1, w1, t1, zz⟩ := I3.tuple (same_tup (ff.trans fh2) s1')
        have e1 := w1.length
        have hi : i < ds.length := by have := (List.getElem?_eq_some_iff.mp hd).1; rw [List.length_reverse] at this; exact this
        rw [List.getElem?_reverse hi] at hd
        obtain ⟨x, hx, ix⟩ := j1.get hd
        obtain ⟨u, hu, ru⟩ := w1.get hx
        have ei : ((ds.length : Int) - 1 - i) = ((ds.length - 1 - i : Nat) : Int) := by omega
        have z' : RevO s.heap s1.heap.objs.size l1 ((ds.length - 1 - i : Nat) : Int) := by rw [← ei]; exact z
        refine next_rev_item z' t1 (x := u) (by simpa using hu) (by rw [List.size_toArray]; omega) fun g tk k1 k2 => ?_
        refine ⟨u, x, H2, F2, rfl, ru, I3.turnedL (t' := tk) fps fun b o hb e => (k2.2 b fun h => hb (by simp [h])).trans e, Pur.refl fh2, fun b hb => (fps b hb).1, ix.mono ff, ?_⟩
        have e3 : ((ds.length - 1 - i : Nat) : Int) - 1 = (ds.length : Int) - 1 - ((i + 1 : Nat) : Int) := by omega
        rw [e3] at k1
        exact k1)
      (by
        rintro s H2 A E hh I3 ff fps z
        have e3 : (ds.length : Int) - 1 - (ds.reverse.length : Nat) = -1 := by rw [List.length_reverse]; omega
        rw [e3] at z
        exact next_rev_end hh z fun g k => ⟨rfl, I3.turnedL (t' := s.toks) fps fun b o hb e => k b o (fun h => hb (by simp [h])) e⟩)
    have st0 : Inv X pins σ (upd H1 g.objs.size (.lst [])) { s1 with heap := g.push { cls := .type "list", data := .seq #[] }, toks := tk } := I2.lnew (t' := tk) (ys := []) (its := []) .nil (Nat.zero_le _)
    refine DrawsL.call (s := { s1 with heap := g, toks := tk }) W (.inr rfl) hr (I1.ok.hd hc) (by rw [List.length_reverse]; omega) ⟨upd H1 g.objs.size (.lst []), F1, [], st0, (Pur.refl pu.fh).setOwn hS (pu.fh.free hS), upd_same, pu.fh.free hS, IsL.nil, fun b hb => ?_, ?_⟩ ?_
    · rw [List.mem_singleton.mp hb]
      exact fpOk_upd (I1.fpOk (Nat.le_refl _) (I1.hok.fresh (Nat.le_refl _))) (Nat.ne_of_lt hr)
    · have e4 : (ds.length : Int) - 1 - ((0 : Nat) : Int) = (ds.length : Int) - 1 := by omega
      show RevO _ _ _ ((ds.length : Int) - 1 - ((0 : Nat) : Int))
      rw [e4]
      exact Heap.get?_push_of_some _ g1
    · rintro s' ⟨H2, F2, vs, i2, p2, l2, n2, iw⟩
      exact ⟨.ref g.objs.size, H2, i2, rfl, q _ vs H2 F2 (pu.trans p2) (pu.hh.free hS) n2 l2 iw⟩
end
end L3
set_option Elab.async false
set_option linter.all false
set_option maxRecDepth 100000
set_option maxHeartbeats 4000000
namespace HT
open PySem PySem.Spec PySem.Calls PyProof.Rows L2
section
variable {prog : Program} {w : World} {A : Around} {E : Value → Shared → Prop} {s : Shared}
theorem getItem_whole {t sl : Addr} {us : Array Value} {vl vu : Value} {lo hi : Option Int} {Q : Value → Shared → Prop} (ht : IsTup s.heap t us) (hs : s.heap.IsSliceOf sl vl vu .none) (pl : IsPart vl lo) (pu : IsPart vu hi) (h1 : sIx us.size 0 lo = 0) (h2 : sIx us.size us.size hi = us.size) (h : Q (.ref t) s) :
    wpAny (model prog w) A (getItem (.ref t) (.ref sl)) Q E s := by
  obtain ⟨os, hos, hcs, hds⟩ := id hs
  have hTs : s.TypeIs (.ref sl) "slice" := ⟨os, hos, hcs⟩
  unfold getItem
  try with_reducible refine wpAny_holding ?_
  first | refine wpAny_bind (wpAny_pure ?_) | skip
  refine wpAny_bind (wpAny_sequenceKey ht.typeIs (by decide) (wpAny_bind (wpAny_callSpecial?_slot (name := Str.ofString "__getitem__") ht.typeIs PyProof.Rows.slot_tuple_getitem (wpAny_call_entry PyProof.Rows.slot_tuple_getitem ht.typeIs entry_tuple_getitem ?_ (args_tuple_getitem _ _)))))
  show wpAny _ _ (Builtin.Tuple.tupleItemsOf (.ref t) >>= _) _ _ _
  refine wpAny_bind (tupleItemsOf_ ht (wpAny_bind (wpAny_typeOf hTs ?_)))
  rw [if_pos (by decide)]
  refine wpAny_bind (sliceApplied_gen hs pl pu ?_)
  show wpAny _ _ (if (((sIx us.size 0 lo : Nat) : Int) == 0 && (1 : Int) == 1 && (sIx us.size us.size hi - sIx us.size 0 lo) == us.size) = true then _ else _) _ _ _
  rw [if_pos (by rw [h1, h2]; simp)]
  obtain ⟨o, ho, hc, _⟩ := ht
  refine wpAny_bind (m := Builtin.Tuple.tupleIsExact (.ref t)) ?_
  unfold Builtin.Tuple.tupleIsExact
  refine wpAny_bind (wpAny_typeOf (T := "tuple") ⟨o, ho, hc⟩ (wpAny_pure ?_))
  rw [if_pos (by decide)]
  exact wpAny_bind (wpAny_rule (wpAny_pure ⟨_, rfl, wpAny_pure h⟩))
end
end HT
namespace L3
open PySem PySem.Spec PySem.Calls PyProof.Rows L2
section
variable {X : Cx} {Γ : Ga} {a : Expr} {lo hi : Option Expr} {i j : Option Int} {ds : List D} {pos p2 : Pos}
theorem sl_tupW : SlR X (fun x lo hi H Q => ∃ a xs, x = .ref a ∧ SqT X.K H a xs ∧ HT.sIx xs.length 0 lo = 0 ∧ HT.sIx xs.length xs.length hi = xs.length ∧ Q (.ref a) H) := by
  intro pins s σ H x v vl vu lo hi sl Q I rx hs pl pu h
  obtain ⟨a, xs, rfl, hx, h1, h2, q⟩ := h
  cases rx
  obtain ⟨its, r, ht, hz⟩ := I.tuple hx
  have hlen : its.toArray.size = xs.length := by rw [List.size_toArray]; exact r.length.symm
  exact ⟨"tuple", _, PyProof.Rows.slot_tuple_getitem.lookup, ht.typeIs, HT.getItem_whole ht hs pl pu (by rw [hlen]; exact h1) (by rw [hlen]; exact h2) ⟨.ref a, H, I, rfl, q⟩⟩
theorem p_sliceTA (ha : P3 X Γ a (.tup ds)) (hl : PO3 X Γ lo i) (hh : PO3 X Γ hi j) : P3 X Γ (.Subscript a (.Slice lo hi none p2) pos) (.tup (cutD ds i j)) := by
  by_cases hw : HT.sIx ds.length 0 i = 0 ∧ HT.sIx ds.length ds.length j = ds.length
  · have e : cutD ds i j = ds := by unfold cutD; rw [hw.1, hw.2, List.drop_zero, Nat.sub_zero, List.take_length]
    rw [e]
    exact PE.of (pe_slice sl_tupW ha hl hh) fun σ H Q ⟨F, fh, sl, q⟩ => tSl3 ⟨F, fh, sl, fun x H2 F2 p i1 => by
      obtain ⟨l, xs, rfl, s1, j1⟩ := isT i1
      exact ⟨l, xs, rfl, same_tup p.fh s1, by rw [j1.len]; exact hw.1, by rw [j1.len]; exact hw.2, q _ _ _ p (Is.tupI s1 j1)⟩⟩
  · exact p_sliceT ha hl hh hw
theorem cut_init {d : D} : cutD (ds ++ [d]) none (some (-1)) = ds := by
  unfold cutD HT.sIx
  simp
  rw [show (-1 + ((ds.length : Int) + 1)).toNat = ds.length by omega, List.take_left]
theorem cut_last {d : D} : cutD (ds ++ [d]) (some (-1)) none = [d] := by
  unfold cutD HT.sIx
  simp
  rw [show (-1 + ((ds.length : Int) + 1)).toNat = ds.length by omega, List.drop_left, show ds.length + 1 - ds.length = 1 by omega]
  rfl
theorem at_last {d : D} : atI (ds ++ [d]) (-1) = some d := by
  unfold atI ixN
  simp
  rw [if_pos (by omega), show (-1 + ((ds.length : Int) + 1)).toNat = ds.length by omega]
  simp
end
end L3
set_option Elab.async false
set_option linter.all false
set_option maxRecDepth 100000
set_option maxHeartbeats 4000000
namespace L3
open PySem PySem.Spec PySem.Calls PyProof.Rows L2
inductive Tr where
  | lf (w : Str)
  | nd (r : Nat) (ps : List Tr)
mutual
def trD : Tr → D
  | .lf w => .str w
  | .nd r ps => .tup [.int r, .tup (trsD ps)]
def trsD : List Tr → List D
  | [] => []
  | t :: ts => trD t :: trsD ts
end
mutual
def dpt : Tr → Nat
  | .lf _ => 0
  | .nd _ ps => dpts ps + 1
def dpts : List Tr → Nat
  | [] => 0
  | t :: ts => max (dpt t) (dpts ts)
end
mutual
def wds : Tr → List Str
  | .lf w => [w]
  | .nd _ ps => wdsL ps
def wdsL : List Tr → List Str
  | [] => []
  | t :: ts => wds t ++ wdsL ts
end
mutual
/-- how many rules stand in it -/
def nds : Tr → Nat
  | .lf _ => 0
  | .nd _ ps => ndsL ps + 1
def ndsL : List Tr → Nat
  | [] => 0
  | t :: ts => nds t + ndsL ts
end
mutual
def shT (rs : List Rule) : Tr → Rat
  | .lf _ => 1
  | .nd r ps => ((rs[r]?).map (·.2.2)).getD 0 * shTL rs ps
def shTL (rs : List Rule) : List Tr → Rat
  | [] => 1
  | t :: ts => shT rs t * shTL rs ts
end
mutual
/-- its rules' numbers are numbers of rules -/
def inR (n : Nat) : Tr → Prop
  | .lf _ => True
  | .nd r ps => r < n ∧ inRL n ps
def inRL (n : Nat) : List Tr → Prop
  | [] => True
  | t :: ts => inR n t ∧ inRL n ts
end
theorem trsD_map : ∀ {ts : List Tr}, trsD ts = ts.map trD
  | [] => by rw [trsD]; rfl
  | t :: ts => by rw [trsD, trsD_map]; rfl
theorem dpts_mem : ∀ {ts : List Tr} {t : Tr}, t ∈ ts → dpt t ≤ dpts ts
  | [], _, h => (List.not_mem_nil h).elim
  | u :: ts, t, h => by
    rw [dpts]
    rcases List.mem_cons.mp h with z | z
    · rw [z]; exact Nat.le_max_left _ _
    · exact Nat.le_trans (dpts_mem z) (Nat.le_max_right _ _)
theorem wdsL_flat : ∀ {ts : List Tr}, wdsL ts = ts.flatMap wds
  | [] => by rw [wdsL]; rfl
  | t :: ts => by rw [wdsL, wdsL_flat]; rfl
def prodQ : List Rat → Rat
  | [] => 1
  | a :: as => a * prodQ as
theorem shTL_prod {rs : List Rule} : ∀ {ts : List Tr}, shTL rs ts = prodQ (ts.map (shT rs))
  | [] => by rw [shTL]; rfl
  | t :: ts => by rw [shTL, shTL_prod]; rfl
theorem prodQ_snoc : ∀ {as : List Rat} {a : Rat}, prodQ (as ++ [a]) = prodQ as * a
  | [], a => by simp only [List.nil_append, prodQ]; grind
  | b :: as, a => by rw [List.cons_append, prodQ, prodQ, prodQ_snoc]; grind
theorem trs_get {ts : List Tr} {i : Nat} {d : D} (h : (trsD ts)[i]? = some d) : ∃ t, ts[i]? = some t ∧ d = trD t := by
  rw [trsD_map, List.getElem?_map] at h
  cases q : ts[i]? with
  | none => rw [q] at h; cases h
  | some t => rw [q] at h; cases h; exact ⟨t, rfl, rfl⟩
theorem trsD_len {ts : List Tr} : (trsD ts).length = ts.length := by rw [trsD_map, List.length_map]
theorem wds_sub {ts : List Tr} {i : Nat} : ((ts.take i).flatMap wds).length ≤ (ts.flatMap wds).length := by
  have e : ts.flatMap wds = (ts.take i).flatMap wds ++ (ts.drop i).flatMap wds := by rw [← List.flatMap_append, List.take_append_drop]
  rw [e, List.length_append]
  omega
def C_words (n : Nat) : List D → D → Prop := fun ds d => ∃ t : Tr, ds = [trD t] ∧ d = bodyD (wds t) ∧ dpt t ≤ n ∧ (wds t).length ≤ 1000
def C_shT (n : Nat) : List D → D → Prop := fun ds d => ∃ (rs : List Rule) (t : Tr), ds = [.lst (rulesD rs), trD t] ∧ d = sh (shT rs t) ∧ dpt t ≤ n ∧ inR rs.length t ∧ (∀ r ∈ rs, 0 ≤ r.2.2 ∧ Sz 5 r.2.2) ∧ nds t ≤ 1000 ∧ (wds t).length ≤ 1000
end L3
namespace L3
open PySem PySem.Spec PySem.Calls PyProof.Rows L2
mutual
theorem shT_ok {rs : List Rule} (hr : ∀ r ∈ rs, 0 ≤ r.2.2 ∧ Sz 5 r.2.2) : ∀ {t : Tr}, inR rs.length t → 0 ≤ shT rs t ∧ Sz (6 * nds t + (wds t).length) (shT rs t)
  | .lf w, _ => by rw [shT, nds, wds]; exact ⟨by decide, sz_1⟩
  | .nd r ps, h => by
    rw [inR] at h
    rw [shT, nds, wds]
    obtain ⟨q, hq⟩ : ∃ q, rs[r]? = some q := ⟨_, List.getElem?_eq_getElem h.1⟩
    have hr' := hr q (List.mem_of_getElem? hq)
    have hp := shTL_ok hr h.2
    rw [hq]
    refine ⟨q_nn_mul hr'.1 hp.1, (sz_mul hr'.2 hp.2).mono (by omega)⟩
theorem shTL_ok {rs : List Rule} (hr : ∀ r ∈ rs, 0 ≤ r.2.2 ∧ Sz 5 r.2.2) : ∀ {ts : List Tr}, inRL rs.length ts → 0 ≤ shTL rs ts ∧ Sz (6 * ndsL ts + (wdsL ts).length + 1) (shTL rs ts)
  | [], _ => by rw [shTL, ndsL, wdsL]; exact ⟨by decide, sz_1⟩
  | t :: ts, h => by
    rw [inRL] at h
    rw [shTL, ndsL, wdsL]
    have h1 := shT_ok hr h.1
    have h2 := shTL_ok hr h.2
    refine ⟨q_nn_mul h1.1 h2.1, (sz_mul h1.2 h2.2).mono ?_⟩
    rw [List.length_append]
    omega
end
theorem inRL_all {n : Nat} : ∀ {ts : List Tr}, inRL n ts ↔ ∀ t ∈ ts, inR n t
  | [] => by rw [inRL]; simp
  | t :: ts => by rw [inRL, inRL_all]; simp
theorem ndsL_mem : ∀ {ts : List Tr} {t : Tr}, t ∈ ts → nds t ≤ ndsL ts
  | [], _, h => (List.not_mem_nil h).elim
  | u :: ts, t, h => by
    rw [ndsL]
    rcases List.mem_cons.mp h with z | z
    · rw [z]; omega
    · have := ndsL_mem z; omega
theorem ndsL_take : ∀ {ts : List Tr} {i : Nat}, ndsL (ts.take i) ≤ ndsL ts
  | [], i => by rw [List.take_nil]; exact Nat.le_refl _
  | t :: ts, 0 => by rw [List.take_zero, ndsL, ndsL]; omega
  | t :: ts, i + 1 => by
    rw [List.take_succ_cons, ndsL, ndsL]
    have := ndsL_take (ts := ts) (i := i)
    omega
theorem wds_mem {ts : List Tr} {t : Tr} (h : t ∈ ts) : (wds t).length ≤ (wdsL ts).length := by
  induction ts with
  | nil => exact (List.not_mem_nil h).elim
  | cons u ts ih =>
    rw [wdsL, List.length_append]
    rcases List.mem_cons.mp h with z | z
    · rw [z]; omega
    · have := ih z; omega
theorem take_getT {α : Type} {l : List α} {i : Nat} {x : α} (h : l[i]? = some x) : l.take (i + 1) = l.take i ++ [x] := by
  rw [List.take_succ, h]
  rfl
end L3
namespace L3
open PySem PySem.Spec PySem.Calls PyProof.Rows L2
def isNd : Tr → Bool
  | .nd _ _ => true
  | .lf _ => false
def C_shareOf (C : Addr) : List D → D → Prop := fun ds d => ∃ (st : Str) (rs : List Rule) (t : Tr), ds = [gD C st rs, trD t] ∧ d = sh (shT rs t) ∧ isNd t = true ∧ inR rs.length t ∧ (∀ r ∈ rs, 0 ≤ r.2.2 ∧ Sz 5 r.2.2) ∧ nds t ≤ 1000 ∧ (wds t).length ≤ 1000
theorem shTL_nodes {rs : List Rule} : ∀ {ts : List Tr}, shTL rs (ts.filter isNd) = shTL rs ts
  | [] => rfl
  | .lf w :: ts => by
    rw [List.filter_cons_of_neg (by simp [isNd]), shTL_nodes, shTL, shT, Rat.one_mul]
  | .nd r ps :: ts => by
    rw [List.filter_cons_of_pos (by simp [isNd]), shTL, shTL_nodes, shTL]
theorem ndsL_nodes : ∀ {ts : List Tr}, ndsL (ts.filter isNd) = ndsL ts
  | [] => rfl
  | .lf w :: ts => by rw [List.filter_cons_of_neg (by simp [isNd]), ndsL_nodes, ndsL, nds, Nat.zero_add]
  | .nd r ps :: ts => by rw [List.filter_cons_of_pos (by simp [isNd]), ndsL, ndsL_nodes, ndsL]
theorem shTL_app {rs : List Rule} : ∀ {ts us : List Tr}, shTL rs (ts ++ us) = shTL rs ts * shTL rs us
  | [], us => by rw [List.nil_append, shTL, Rat.one_mul]
  | t :: ts, us => by rw [List.cons_append, shTL, shTL, shTL_app, Rat.mul_assoc]
theorem ndsL_app : ∀ {ts us : List Tr}, ndsL (ts ++ us) = ndsL ts + ndsL us
  | [], us => by rw [List.nil_append, ndsL, Nat.zero_add]
  | t :: ts, us => by rw [List.cons_append, ndsL, ndsL, ndsL_app, Nat.add_assoc]
theorem ndsL_len : ∀ {ts : List Tr}, (∀ t ∈ ts, isNd t = true) → ts.length ≤ ndsL ts
  | [], _ => Nat.zero_le _
  | .lf w :: ts, h => by have := h (.lf w) (by simp); simp [isNd] at this
  | .nd r ps :: ts, h => by
    rw [ndsL, nds, List.length_cons]
    have := ndsL_len (ts := ts) fun t ht => h t (by simp [ht])
    omega
theorem trsD_app {ts us : List Tr} : trsD (ts ++ us) = trsD ts ++ trsD us := by rw [trsD_map, trsD_map, trsD_map, List.map_append]
end L3
namespace L3
open PySem PySem.Spec PySem.Calls PyProof.Rows L2
def C_headOf (C : Addr) : List D → D → Prop := fun ds d => ∃ (st : Str) (rs : List Rule) (r : Nat) (ps : List Tr) (q : Rule), ds = [gD C st rs, trD (.nd r ps)] ∧ d = .str q.1 ∧ rs[r]? = some q
end L3
set_option Elab.async false
set_option linter.all false
set_option maxRecDepth 100000
set_option maxHeartbeats 4000000
namespace L3
open PySem PySem.Spec PySem.Calls PyProof.Rows L2
inductive Th where
  | lf (w : Str)
  | nd (r : Int) (ps : List Th)
  | one (r : Int)
mutual
def thD : Th → D
  | .lf w => .str w
  | .nd r ps => .tup [.int r, .tup (thsD ps)]
  | .one r => .tup [.int r]
def thsD : List Th → List D
  | [] => []
  | t :: ts => thD t :: thsD ts
end
mutual
def szT : Th → Nat
  | .lf _ => 1
  | .nd _ ps => szTL ps + 1
  | .one _ => 1
def szTL : List Th → Nat
  | [] => 0
  | t :: ts => szT t + szTL ts
end
mutual
def dpH : Th → Nat
  | .lf _ => 0
  | .nd _ ps => dpHL ps + 1
  | .one _ => 0
def dpHL : List Th → Nat
  | [] => 0
  | t :: ts => max (dpH t) (dpHL ts)
end
def ruleAt (rs : List Rule) (r : Int) : Option Rule := if 0 ≤ r then rs[r.toNat]? else none
mutual
def isTr (rs : List Rule) : Th → Str → Bool
  | .lf w, y => !decide (y ∈ rs.map (·.1)) && decide (w = y)
  | .nd r ps, y => match ruleAt rs r with
    | some q => decide (q.1 = y) && (decide (ps.length = q.2.1.length) && isTrL rs ps q.2.1)
    | none => false
  | .one _, _ => false
def isTrL (rs : List Rule) : List Th → List Str → Bool
  | t :: ts, y :: ys => isTr rs t y && isTrL rs ts ys
  | _, _ => true
end
def fits (rs : List Rule) : Th → Bool
  | .nd r ps => match ruleAt rs r with
    | some q => decide (ps.length = q.2.1.length)
    | none => false
  | _ => false
def topT (rs : List Rule) : Th → Bool
  | .nd r ps => match ruleAt rs r with
    | some q => decide (ps.length = q.2.1.length) && isTrL rs ps q.2.1
    | none => false
  | _ => false
theorem thsD_map : ∀ {ts : List Th}, thsD ts = ts.map thD
  | [] => by rw [thsD]; rfl
  | t :: ts => by rw [thsD, thsD_map]; rfl
theorem thsD_len {ts : List Th} : (thsD ts).length = ts.length := by rw [thsD_map, List.length_map]
theorem dpHL_mem : ∀ {ts : List Th} {t : Th}, t ∈ ts → dpH t ≤ dpHL ts
  | [], _, h => (List.not_mem_nil h).elim
  | u :: ts, t, h => by
    rw [dpHL]
    rcases List.mem_cons.mp h with z | z
    · rw [z]; exact Nat.le_max_left _ _
    · exact Nat.le_trans (dpHL_mem z) (Nat.le_max_right _ _)
theorem dpHL_le {n : Nat} : ∀ {ts : List Th}, (∀ t ∈ ts, dpH t ≤ n) → dpHL ts ≤ n
  | [], _ => by rw [dpHL]; exact Nat.zero_le _
  | t :: ts, h => by
    rw [dpHL]
    exact Nat.max_le.mpr ⟨h t (by simp), dpHL_le fun u hu => h u (by simp [hu])⟩
theorem szTL_app : ∀ {ts us : List Th}, szTL (ts ++ us) = szTL ts + szTL us
  | [], us => by rw [List.nil_append, szTL, Nat.zero_add]
  | t :: ts, us => by rw [List.cons_append, szTL, szTL, szTL_app, Nat.add_assoc]
theorem szT_pos : ∀ {t : Th}, 1 ≤ szT t
  | .lf _ => by rw [szT]; exact Nat.le_refl _
  | .nd _ _ => by rw [szT]; omega
  | .one _ => by rw [szT]; exact Nat.le_refl _
theorem szTL_len : ∀ {ts : List Th}, ts.length ≤ szTL ts
  | [] => Nat.zero_le _
  | t :: ts => by
    rw [szTL, List.length_cons]
    have := szTL_len (ts := ts)
    have := szT_pos (t := t)
    omega
theorem isTrL_all {rs : List Rule} : ∀ {ts : List Th} {ys : List Str}, isTrL rs ts ys = (ys.zip ts).all fun p => isTr rs p.2 p.1
  | [], [] => by rw [isTrL]; rfl; simp
  | [], y :: ys => by rw [isTrL]; rfl; simp
  | t :: ts, [] => by rw [isTrL]; rfl; simp
  | t :: ts, y :: ys => by rw [isTrL, isTrL_all]; rfl
theorem ruleAt_nat {rs : List Rule} {r : Nat} : ruleAt rs (r : Int) = rs[r]? := by
  unfold ruleAt
  rw [if_pos (by omega), Int.toNat_natCast]
theorem ruleAt_some {rs : List Rule} {r : Int} {q : Rule} (h : ruleAt rs r = some q) : ∃ k : Nat, r = k ∧ rs[k]? = some q ∧ k < rs.length := by
  unfold ruleAt at h
  split at h
  · exact ⟨r.toNat, by omega, h, (List.getElem?_eq_some_iff.mp h).1⟩
  · cases h
theorem ruleAt_none {rs : List Rule} {r : Int} (h : ruleAt rs r = none) : r < 0 ∨ (rs.length : Int) ≤ r := by
  unfold ruleAt at h
  split at h
  · rw [List.getElem?_eq_none_iff] at h; omega
  · omega
mutual
def toTh : Tr → Th
  | .lf w => .lf w
  | .nd r ps => .nd r (toThs ps)
def toThs : List Tr → List Th
  | [] => []
  | t :: ts => toTh t :: toThs ts
end
mutual
theorem thD_to : ∀ {t : Tr}, thD (toTh t) = trD t
  | .lf w => by rw [toTh, thD, trD]
  | .nd r ps => by rw [toTh, thD, trD, thsD_to]
theorem thsD_to : ∀ {ts : List Tr}, thsD (toThs ts) = trsD ts
  | [] => by rw [toThs, thsD, trsD]
  | t :: ts => by rw [toThs, thsD, trsD, thD_to, thsD_to]
end
theorem toThs_map : ∀ {ts : List Tr}, toThs ts = ts.map toTh
  | [] => by rw [toThs]; rfl
  | t :: ts => by rw [toThs, toThs_map]; rfl
theorem toThs_len {ts : List Tr} : (toThs ts).length = ts.length := by rw [toThs_map, List.length_map]
mutual
theorem wds_sz : ∀ {t : Tr}, (wds t).length ≤ szT (toTh t)
  | .lf w => by rw [toTh, szT, wds]; simp
  | .nd r ps => by rw [toTh, szT, wds]; have := wdsL_sz (ts := ps); omega
theorem wdsL_sz : ∀ {ts : List Tr}, (wdsL ts).length ≤ szTL (toThs ts)
  | [] => by rw [wdsL]; exact Nat.zero_le _
  | t :: ts => by
    rw [wdsL, toThs, szTL, List.length_append]
    have := wds_sz (t := t)
    have := wdsL_sz (ts := ts)
    omega
end
mutual
theorem nds_sz : ∀ {t : Tr}, nds t ≤ szT (toTh t)
  | .lf w => by rw [toTh, szT, nds]; omega
  | .nd r ps => by rw [toTh, szT, nds]; have := ndsL_sz (ts := ps); omega
theorem ndsL_sz : ∀ {ts : List Tr}, ndsL ts ≤ szTL (toThs ts)
  | [] => by rw [ndsL]; exact Nat.zero_le _
  | t :: ts => by
    rw [ndsL, toThs, szTL]
    have := nds_sz (t := t)
    have := ndsL_sz (ts := ts)
    omega
end
mutual
theorem dpH_to : ∀ {t : Tr}, dpH (toTh t) = dpt t
  | .lf w => by rw [toTh, dpH, dpt]
  | .nd r ps => by rw [toTh, dpH, dpt, dpHL_to]
theorem dpHL_to : ∀ {ts : List Tr}, dpHL (toThs ts) = dpts ts
  | [] => by rw [toThs, dpHL, dpts]
  | t :: ts => by rw [toThs, dpHL, dpts, dpH_to, dpHL_to]
end
mutual
/-- a tree's rules are rules -/
theorem isT_inR {rs : List Rule} : ∀ {t : Tr} {y : Str}, isTr rs (toTh t) y = true → inR rs.length t
  | .lf w, _, _ => by rw [inR]; trivial
  | .nd r ps, y, h => by
    rw [toTh, isTr, ruleAt_nat] at h
    rw [inR]
    cases q : rs[r]? with
    | none => rw [q] at h; cases h
    | some p =>
      rw [q] at h
      have h : (decide (p.1 = y) && (decide ((toThs ps).length = p.2.1.length) && isTrL rs (toThs ps) p.2.1)) = true := h
      rw [Bool.and_eq_true, Bool.and_eq_true] at h
      exact ⟨(List.getElem?_eq_some_iff.mp q).1, isTL_inR (by rw [toThs_len] at h; exact of_decide_eq_true h.2.1) h.2.2⟩
theorem isTL_inR {rs : List Rule} : ∀ {ts : List Tr} {ys : List Str}, ts.length = ys.length → isTrL rs (toThs ts) ys = true → inRL rs.length ts
  | [], _, _, _ => by rw [inRL]; trivial
  | t :: ts, [], l, _ => by cases l
  | t :: ts, y :: ys, l, h => by
    rw [toThs, isTrL, Bool.and_eq_true] at h
    rw [inRL]
    exact ⟨isT_inR h.1, isTL_inR (by simpa using l) h.2⟩
end
theorem isT_top {rs : List Rule} {r : Nat} {ps : List Tr} {y : Str} (h : isTr rs (toTh (.nd r ps)) y = true) : topT rs (toTh (.nd r ps)) = true ∧ ∃ q, rs[r]? = some q ∧ q.1 = y := by
  rw [toTh, isTr, ruleAt_nat] at h
  rw [toTh, topT, ruleAt_nat]
  cases q : rs[r]? with
  | none => rw [q] at h; cases h
  | some p =>
    rw [q] at h
    have h : (decide (p.1 = y) && (decide ((toThs ps).length = p.2.1.length) && isTrL rs (toThs ps) p.2.1)) = true := h
    rw [Bool.and_eq_true] at h
    exact ⟨h.2, p, rfl, of_decide_eq_true h.1⟩
theorem any_top {rs : List Rule} {hs : List Str} (e : firsts rs = hs) : ∀ {t : Th}, (hs.any fun y => isTr rs t y) = topT rs t
  | .lf w => by
    rw [topT]
    · rw [List.any_eq_false]
      intro y hy
      rw [isTr, decide_eq_true (by rw [← e] at hy; exact mem_firsts.mp hy)]
      simp
    · intro r ps z; cases z
  | .one r => by
    rw [topT]
    · rw [List.any_eq_false]
      intro y hy
      rw [isTr]
      simp
    · intro r ps z; cases z
  | .nd r ps => by
    rw [topT]
    cases q : ruleAt rs r with
    | none =>
      rw [List.any_eq_false]
      intro y hy
      rw [isTr, q]
      simp
    | some p =>
      have e2 : ∀ y, isTr rs (.nd r ps) y = (decide (p.1 = y) && (decide (ps.length = p.2.1.length) && isTrL rs ps p.2.1)) := fun y => by rw [isTr, q]
      obtain ⟨k, _, hk, _⟩ := ruleAt_some q
      have hm : p.1 ∈ hs := by rw [← e]; exact mem_firsts.mpr (List.mem_map.mpr ⟨p, List.mem_of_getElem? hk, rfl⟩)
      show (hs.any fun y => isTr rs (.nd r ps) y) = (decide (ps.length = p.2.1.length) && isTrL rs ps p.2.1)
      cases z : (decide (ps.length = p.2.1.length) && isTrL rs ps p.2.1) with
      | true => exact List.any_eq_true.mpr ⟨p.1, hm, by rw [e2, z]; simp⟩
      | false => rw [List.any_eq_false]; intro y _; rw [e2, z]; simp
def C_fits : List D → D → Prop := fun ds d => ∃ (rs : List Rule) (t : Th), ds = [.lst (rulesD rs), thD t] ∧ d = .bl (fits rs t)
def C_due : List D → List D → Prop := fun ds gs => ∃ (rs : List Rule) (r : Int) (ps : List Th) (q : Rule), ds = [.lst (rulesD rs), thD (.nd r ps)] ∧ gs = zipD (q.2.1.map D.str) (thsD ps) ∧ ruleAt rs r = some q
def C_wordsOf (C : Addr) : List D → D → Prop := fun ds d => ∃ (st : Str) (rs : List Rule) (t : Tr), ds = [gD C st rs, trD t] ∧ d = bodyD (wds t) ∧ szT (toTh t) ≤ 1000
def C_isTree (C : Addr) : List D → D → Prop := fun ds d => ∃ (st : Str) (rs : List Rule) (t : Th), ds = [gD C st rs, thD t] ∧ d = .bl (topT rs t) ∧ szT t ≤ 3000
def C_lawIsT (n : Nat) : List D → D → Prop := fun ds d => ∃ (rs : List Rule) (y : Str) (t : Th), ds = [.lst (rulesD rs), .str y, thD t] ∧ d = .bl (isTr rs t y) ∧ dpH t ≤ n ∧ rs.length ≤ 100
theorem rule_at {rs : List Rule} {r : Int} {q : Rule} (h : ruleAt rs r = some q) : atI (rulesD rs) r = some (ruleD q) := by
  obtain ⟨k, rfl, hk, _⟩ := ruleAt_some h
  refine atI_nat ?_
  unfold rulesD
  rw [List.getElem?_map, hk]
  rfl
def szR (us : List Tr) : Nat := (us.map fun u => szT (toTh u)).sum
theorem szR_app {us vs : List Tr} : szR (us ++ vs) = szR us + szR vs := by unfold szR; rw [List.map_append, List.sum_append]
theorem szR_len : ∀ {us : List Tr}, us.length ≤ szR us
  | [] => Nat.zero_le _
  | u :: us => by
    have := szR_len (us := us)
    have := szT_pos (t := toTh u)
    unfold szR at *
    rw [List.map_cons, List.sum_cons, List.length_cons]
    omega
theorem szR_to : ∀ {us : List Tr}, szTL (toThs us) = szR us
  | [] => by rw [toThs, szTL]; rfl
  | u :: us => by
    rw [toThs, szTL, szR_to]
    unfold szR
    rw [List.map_cons, List.sum_cons]
theorem szR_rev {us : List Tr} : szR us.reverse = szR us := by
  unfold szR
  rw [List.map_reverse, List.sum_reverse]
theorem trsD_rev {us : List Tr} : (trsD us).reverse = trsD us.reverse := by rw [trsD_map, trsD_map, List.map_reverse]
def dueD (p : Str × Th) : D := .tup [.str p.1, thD p.2]
theorem due_zip {ys : List Str} {ts : List Th} : zipD (ys.map D.str) (thsD ts) = (ys.zip ts).map dueD := by
  rw [thsD_map]
  unfold zipD
  rw [List.zip_map, List.map_map]
  rfl
def szP (us : List (Str × Th)) : Nat := (us.map fun u => szT u.2).sum
theorem szP_app {us vs : List (Str × Th)} : szP (us ++ vs) = szP us + szP vs := by unfold szP; rw [List.map_append, List.sum_append]
theorem szP_len : ∀ {us : List (Str × Th)}, us.length ≤ szP us
  | [] => Nat.zero_le _
  | u :: us => by
    have := szP_len (us := us)
    have := szT_pos (t := u.2)
    unfold szP at *
    rw [List.map_cons, List.sum_cons, List.length_cons]
    omega
theorem szP_zip : ∀ {ys : List Str} {ts : List Th}, szP (ys.zip ts) ≤ szTL ts
  | [], ts => by rw [List.zip_nil_left]; exact Nat.zero_le _
  | y :: ys, [] => by rw [List.zip_nil_right]; exact Nat.zero_le _
  | y :: ys, t :: ts => by
    have := szP_zip (ys := ys) (ts := ts)
    rw [szTL]
    unfold szP at *
    rw [List.zip_cons_cons, List.map_cons, List.sum_cons]
    show szT t + _ ≤ _
    omega
def allT (rs : List Rule) (us : List (Str × Th)) : Bool := us.all fun p => isTr rs p.2 p.1
theorem allT_app {rs : List Rule} {us vs : List (Str × Th)} : allT rs (us ++ vs) = (allT rs us && allT rs vs) := List.all_append
theorem allT_one {rs : List Rule} {y : Str} {t : Th} : allT rs [(y, t)] = isTr rs t y := by unfold allT; rw [List.all_cons, List.all_nil, Bool.and_true]
theorem isTr_nd {rs : List Rule} {r : Int} {ps : List Th} {q : Rule} {y : Str} (h : ruleAt rs r = some q) : isTr rs (.nd r ps) y = (decide (q.1 = y) && (decide (ps.length = q.2.1.length) && allT rs (q.2.1.zip ps))) := by
  unfold allT
  rw [← isTrL_all, isTr, h]
theorem topT_nd {rs : List Rule} {r : Int} {ps : List Th} {q : Rule} (h : ruleAt rs r = some q) : topT rs (.nd r ps) = (decide (ps.length = q.2.1.length) && allT rs (q.2.1.zip ps)) := by
  unfold allT
  rw [← isTrL_all, topT, h]
theorem fits_nd {rs : List Rule} {r : Int} {ps : List Th} {q : Rule} (h : ruleAt rs r = some q) : fits rs (.nd r ps) = decide (ps.length = q.2.1.length) := by rw [fits, h]
theorem isTr_no {rs : List Rule} {r : Int} {ps : List Th} {y : Str} (h : ruleAt rs r = none) : isTr rs (.nd r ps) y = false := by rw [isTr, h]
theorem topT_no {rs : List Rule} {r : Int} {ps : List Th} (h : ruleAt rs r = none) : topT rs (.nd r ps) = false := by rw [topT, h]
theorem fits_no {rs : List Rule} {r : Int} {ps : List Th} (h : ruleAt rs r = none) : fits rs (.nd r ps) = false := by rw [fits, h]
theorem fits_lf {rs : List Rule} {w : Str} : fits rs (.lf w) = false := rfl
theorem fits_one {rs : List Rule} {r : Int} : fits rs (.one r) = false := rfl
theorem thsD_app {ts us : List Th} : thsD (ts ++ us) = thsD ts ++ thsD us := by rw [thsD_map, thsD_map, thsD_map, List.map_append]
theorem dpHL_app {ts us : List Th} : dpHL (ts ++ us) = max (dpHL ts) (dpHL us) := by
  induction ts with
  | nil => rw [List.nil_append, dpHL, Nat.zero_max]
  | cons t ts ih => rw [List.cons_append, dpHL, dpHL, ih, Nat.max_assoc]
theorem toThs_app {ts us : List Tr} : toThs (ts ++ us) = toThs ts ++ toThs us := by rw [toThs_map, toThs_map, toThs_map, List.map_append]
theorem nil_kin {ds : List D} : kin (.lst ds) (.lst []) = true := by
  rw [kin]
  cases ds <;> simp [kins]
theorem beq_nil {ds : List D} : beqD (.lst ds) (.lst []) = ds.isEmpty := by
  rw [beqD]
  cases ds <;> simp [beqL]
theorem isTrL_last {rs : List Rule} : ∀ {ts : List Th} {t : Th} {ys : List Str}, (ts ++ [t]).length = ys.length → isTrL rs (ts ++ [t]) ys = true → ∃ y, isTr rs t y = true
  | [], t, [], l, _ => by cases l
  | [], t, y :: ys, _, h => by
    rw [List.nil_append, isTrL, Bool.and_eq_true] at h
    exact ⟨y, h.1⟩
  | u :: ts, t, [], l, _ => by cases l
  | u :: ts, t, y :: ys, l, h => by
    rw [List.cons_append, isTrL, Bool.and_eq_true] at h
    exact isTrL_last (by simpa using l) h.2
theorem p_isStrT {X : Cx} {Γ : Ga} {a b : Expr} {p pos : Pos} {v : Tr} (hm : X.mg "isinstance" = none) (hg : Gl X "isinstance") (ha : P3 X Γ a (trD v)) (hb : P3 X Γ b (.raw (.ty "str")))
    (he : starEach [a, b] X.env = (false, eval a X.env) :: starEach [b] X.env := by rfl) (he2 : starEach [b] X.env = (false, eval b X.env) :: starEach [] X.env := by rfl) (hpl : (backTo pos (starEach [b] X.env)).any (·.1) = false := by rfl) : P3 X Γ (.Call (.Name "isinstance" p) [a, b] [] pos) (.bl (!isNd v)) := by
  cases v with
  | lf w => rw [trD] at ha; exact p_isin (k := true) hm hg ha hb rfl (by rfl) (fun z => nomatch z) he he2 hpl
  | nd r ps => rw [trD] at ha; exact p_isin (k := false) hm hg ha hb rfl (by rfl) (fun z => nomatch z) he he2 hpl
theorem atI_two {a b : D} {i : Int} (h : 0 ≤ i) (h2 : i < 2) : atI [a, b] i = some (if i = 0 then a else b) := by
  rcases (show i = 0 ∨ i = 1 by omega) with rfl | rfl <;> rfl
def bnd : Nat → Nat
  | 0 => 5
  | n + 1 => 1 + 4 * bnd n
theorem bnd_pos : ∀ {n : Nat}, 1 ≤ bnd n
  | 0 => by decide
  | n + 1 => by rw [bnd]; omega
theorem szTL_le {m : Nat} : ∀ {ts : List Th}, (∀ t ∈ ts, szT t ≤ m) → szTL ts ≤ ts.length * m
  | [], _ => by rw [szTL]; exact Nat.zero_le _
  | t :: ts, h => by
    rw [szTL, List.length_cons, Nat.succ_mul]
    have := h t (by simp)
    have := szTL_le (ts := ts) fun u hu => h u (by simp [hu])
    omega
theorem isTrL_of {rs : List Rule} : ∀ {ts : List Th} {ys : List Str}, (∀ (j : Nat) (t : Th) (y : Str), ts[j]? = some t → ys[j]? = some y → isTr rs t y = true) → isTrL rs ts ys = true
  | [], [], _ => by rw [isTrL]; simp
  | [], y :: ys, _ => by rw [isTrL]; simp
  | t :: ts, [], _ => by rw [isTrL]; simp
  | t :: ts, y :: ys, h => by
    rw [isTrL, h 0 t y rfl rfl, isTrL_of fun j t y h1 h2 => h (j + 1) t y (by simpa using h1) (by simpa using h2)]
    rfl
structure TreeOk (rs : List Rule) (y : Str) (n : Nat) (t : Tr) : Prop where
  nd : isNd t = true
  tr : isTr rs (toTh t) y = true
  dp : dpt t ≤ n + 1
  sz : szT (toTh t) ≤ bnd n
def C_tree (rs : List Rule) (y : Str) (n : Nat) : List D → D → Prop := fun _ d => d = .non ∨ ∃ t, d = trD t ∧ TreeOk rs y n t
def C0_tree (rs : List Rule) (y : Str) (n : Nat) : List D → Prop := fun ds => ∃ m : Nat, m ≤ n ∧ ds = [.lst (rulesD rs), .str y, .int (m : Int)]
def ptD : Option Tr → D
  | none => .non
  | some t => trD t
def PtOk (rs : List Rule) (n : Nat) (x : Str) (o : Option Tr) : Prop := ∀ t, o = some t → isTr rs (toTh t) x = true ∧ dpt t ≤ n ∧ szT (toTh t) ≤ (if n = 0 then 1 else bnd (n - 1))
theorem ptD_nst : ∀ {o : Option Tr}, nst (ptD o) = true
  | none => rfl
  | some (.lf w) => by rw [ptD, trD]; rfl
  | some (.nd r ps) => by rw [ptD, trD]; rfl
theorem ptD_non : ∀ {o : Option Tr}, isNon (ptD o) = o.isNone
  | none => rfl
  | some (.lf w) => by rw [ptD, trD]; rfl
  | some (.nd r ps) => by rw [ptD, trD]; rfl
theorem parts_all : ∀ {os : List (Option Tr)}, (os.any fun o => o.isNone) = false → ∃ ts : List Tr, os = ts.map some
  | [], _ => ⟨[], rfl⟩
  | none :: os, h => by simp at h
  | some t :: os, h => by
    obtain ⟨ts, e⟩ := parts_all (os := os) (by simpa using h)
    exact ⟨t :: ts, by rw [e]; rfl⟩
theorem any_ptD {os : List (Option Tr)} : (os.map ptD).any isNon = os.any fun o => o.isNone := by
  rw [List.any_map]
  congr 1
  funext o
  exact ptD_non
theorem tree_ok {rs : List Rule} {k n : Nat} {q : Rule} {ts : List Tr} (hq : rs[k]? = some q) (hl : ts.length = q.2.1.length) (h4 : q.2.1.length ≤ 4) (h : ∀ (j : Nat) (t : Tr) (x : Str), ts[j]? = some t → q.2.1[j]? = some x → PtOk rs n x (some t)) : TreeOk rs q.1 n (.nd k ts) := by
  have mm : ∀ t ∈ ts, dpt t ≤ n ∧ szT (toTh t) ≤ (if n = 0 then 1 else bnd (n - 1)) := fun t ht => by
    obtain ⟨j, hj, e⟩ := List.getElem_of_mem ht
    have h1 : ts[j]? = some t := by rw [List.getElem?_eq_getElem hj, e]
    obtain ⟨x, hx⟩ : ∃ x, q.2.1[j]? = some x := ⟨_, List.getElem?_eq_getElem (by omega)⟩
    exact (h j t x h1 hx t rfl).2
  refine ⟨rfl, ?_, ?_, ?_⟩
  · rw [toTh, isTr, ruleAt_nat, hq]
    show (decide (q.1 = q.1) && (decide ((toThs ts).length = q.2.1.length) && isTrL rs (toThs ts) q.2.1)) = true
    rw [decide_eq_true rfl, decide_eq_true (by rw [toThs_len]; exact hl), Bool.true_and, Bool.true_and]
    refine isTrL_of fun j t x h1 h2 => ?_
    rw [toThs_map, List.getElem?_map] at h1
    obtain ⟨u, hu, rfl⟩ := Option.map_eq_some_iff.mp h1
    exact (h j u x hu h2 u rfl).1
  · rw [dpt, ← dpHL_to, toThs_map]
    refine Nat.succ_le_succ (dpHL_le fun t ht => ?_)
    obtain ⟨u, hu, rfl⟩ := List.mem_map.mp ht
    rw [dpH_to]
    exact (mm u hu).1
  · have := szTL_le (m := if n = 0 then 1 else bnd (n - 1)) (ts := toThs ts) fun t ht => by
      rw [toThs_map] at ht
      obtain ⟨u, hu, rfl⟩ := List.mem_map.mp ht
      exact (mm u hu).2
    rw [toThs_len, hl] at this
    rw [toTh, szT]
    have h5 : q.2.1.length * (if n = 0 then 1 else bnd (n - 1)) ≤ 4 * (if n = 0 then 1 else bnd (n - 1)) := Nat.mul_le_mul_right _ h4
    cases n with
    | zero => rw [if_pos rfl] at this h5; show _ ≤ 5; omega
    | succ n => rw [if_neg (by omega), Nat.add_sub_cancel] at this h5; rw [bnd]; omega
def numsD (ks : List Nat) : List D := ks.map fun (k : Nat) => .int (k : Int)
theorem numsD_len {ks : List Nat} : (numsD ks).length = ks.length := List.length_map _
theorem numsD_get {ks : List Nat} {i : Nat} {d : D} (h : (numsD ks)[i]? = some d) : ∃ k, ks[i]? = some k ∧ d = .int (k : Int) := by
  unfold numsD at h
  rw [List.getElem?_map] at h
  obtain ⟨x, h1, h2⟩ := Option.map_eq_some_iff.mp h
  exact ⟨x, h1, h2.symm⟩
theorem numsD_app {ks js : List Nat} : numsD (ks ++ js) = numsD ks ++ numsD js := by unfold numsD; rw [List.map_append]
theorem pickN {ks : List Nat} {r : Int} (h1 : 0 ≤ r) (h2 : r < ks.length) : ∃ k ∈ ks, atI (numsD ks) r = some (.int (k : Int)) := by
  obtain ⟨j, rfl⟩ := Int.eq_ofNat_of_zero_le h1
  have hk : j < ks.length := by omega
  refine ⟨ks[j], List.getElem_mem hk, atI_nat ?_⟩
  unfold numsD
  rw [List.getElem?_map, List.getElem?_eq_getElem hk]
  rfl
def ofHead (rs : List Rule) (y : Str) (k : Nat) : Bool := match rs[k]? with
  | some q => decide (q.1 = y)
  | none => false
def isFlat (rs : List Rule) (k : Nat) : Bool := match rs[k]? with
  | some q => (q.2.1.filter fun x => decide (x ∈ rs.map (·.1))).isEmpty
  | none => false
theorem depL_nums : ∀ {ks : List Nat}, depL (numsD ks) = 0
  | [] => by unfold numsD; rw [List.map_nil, depL]
  | k :: ks => by
    have := depL_nums (ks := ks)
    unfold numsD at this ⊢
    rw [List.map_cons, depL, this, dep]
    · rfl
    all_goals (intro _ h; cases h)
theorem dep_nums {ks : List Nat} : dep (.lst (numsD ks)) ≤ 60 := by rw [dep, depL_nums]; decide
theorem cs_test {X : Cx} {Γ : Ga} {c elt : Expr} {k : Bool} {ds es : List D} (h : PT3 X Γ c k) (ht : k = true → ∃ e, P3 X Γ elt e ∧ es = ds ++ [e]) (hf : k = false → es = ds) : (∃ e, PTs3 X Γ [c] true ∧ P3 X Γ elt e ∧ es = ds ++ [e]) ∨ (PTs3 X Γ [c] false ∧ es = ds) := by
  cases k with
  | true => obtain ⟨e, h1, h2⟩ := ht rfl; exact .inl ⟨e, ts_one h, h1, h2⟩
  | false => exact .inr ⟨ts_one h, hf rfl⟩
theorem free3 {SX : List (Str × NameKind)} {a b c : Str} (h : SX.lookup c = some .cell ∨ SX.lookup c = some .free) : ∀ y ∈ [(a, NameKind.local), (b, NameKind.local), (c, NameKind.free)], y.2 = .free → SX.lookup y.1 = some .cell ∨ SX.lookup y.1 = some .free := fun y hy hf => by
  simp only [List.mem_cons, List.not_mem_nil, or_false] at hy
  rcases hy with rfl | rfl | rfl
  · cases hf
  · cases hf
  · exact h
end L3
set_option Elab.async false
set_option linter.all false
set_option maxRecDepth 100000
set_option maxHeartbeats 4000000
namespace Law
open PySem L2 L3
theorem sc_common_divisor : FnScope ["one", "other", "rest"] ["one", "other"] (defScope s_common_divisor) := ⟨rfl, rfl, rfl, by decide +kernel, rfl, by decide +kernel, by decide +kernel⟩
theorem sc_share : FnScope ["top", "bottom", "divisor"] ["top", "bottom"] (defScope s_share) := ⟨rfl, rfl, rfl, by decide +kernel, rfl, by decide +kernel, by decide +kernel⟩
theorem sc_added : FnScope ["one", "other", "divisor", "top", "left"] ["one", "other"] (defScope s_added) := ⟨rfl, rfl, rfl, by decide +kernel, rfl, by decide +kernel, by decide +kernel⟩
theorem sc_timed : FnScope ["one", "other", "first", "second"] ["one", "other"] (defScope s_timed) := ⟨rfl, rfl, rfl, by decide +kernel, rfl, by decide +kernel, by decide +kernel⟩
theorem sc_head_of : FnScope ["grammar", "tree"] ["grammar", "tree"] (defScope s_head_of) := ⟨rfl, rfl, rfl, by decide +kernel, rfl, by decide +kernel, by decide +kernel⟩
theorem sc_words_of : FnScope ["grammar", "tree", "words", "waiting", "part"] ["grammar", "tree"] (defScope s_words_of) := ⟨rfl, rfl, rfl, by decide +kernel, rfl, by decide +kernel, by decide +kernel⟩
theorem sc_share_of : FnScope ["grammar", "tree", "rules", "product", "waiting", "part"] ["grammar", "tree"] (defScope s_share_of) := ⟨rfl, rfl, rfl, by decide +kernel, rfl, by decide +kernel, by decide +kernel⟩
theorem sc_is_tree : FnScope ["grammar", "thing", "rules", "heads", "waiting", "due"] ["grammar", "thing"] (defScope s_is_tree) := ⟨rfl, rfl, rfl, by decide +kernel, rfl, by decide +kernel, by decide +kernel⟩
theorem sc_fits_rule : FnScope ["rules", "thing"] ["rules", "thing"] (defScope s_fits_rule) := ⟨rfl, rfl, rfl, by decide +kernel, rfl, by decide +kernel, by decide +kernel⟩
theorem sc_due_parts : FnScope ["rules", "thing"] ["rules", "thing"] (defScope s_due_parts) := ⟨rfl, rfl, rfl, by decide +kernel, rfl, by decide +kernel, by decide +kernel⟩
theorem sc_Grammar___init__ : FnScope ["self", "start", "rules"] ["self", "start", "rules"] (defScope s_Grammar___init__) := ⟨rfl, rfl, rfl, by decide +kernel, rfl, by decide +kernel, by decide +kernel⟩
theorem sc_Grammar_rules : FnScope ["self"] ["self"] (defScope s_Grammar_rules) := ⟨rfl, rfl, rfl, by decide +kernel, rfl, by decide +kernel, by decide +kernel⟩
theorem sc_Grammar_heads : FnScope ["self"] ["self"] (defScope s_Grammar_heads) := ⟨rfl, rfl, rfl, by decide +kernel, rfl, by decide +kernel, by decide +kernel⟩
theorem sc_check_rules : FnScope ["rules", "seen", "rule"] ["rules"] (defScope s_check_rules) := ⟨rfl, rfl, rfl, by decide +kernel, rfl, by decide +kernel, by decide +kernel⟩
theorem sc_check_rule : FnScope ["rule", "symbol"] ["rule"] (defScope s_check_rule) := ⟨rfl, rfl, rfl, by decide +kernel, rfl, by decide +kernel, by decide +kernel⟩
theorem sc_check_symbol : FnScope ["text"] ["text"] (defScope s_check_symbol) := ⟨rfl, rfl, rfl, by decide +kernel, rfl, by decide +kernel, by decide +kernel⟩
theorem sc_is_symbol : FnScope ["text"] ["text"] (defScope s_is_symbol) := ⟨rfl, rfl, rfl, by decide +kernel, rfl, by decide +kernel, by decide +kernel⟩
theorem sc_is_letter : FnScope ["sign"] ["sign"] (defScope s_is_letter) := ⟨rfl, rfl, rfl, by decide +kernel, rfl, by decide +kernel, by decide +kernel⟩
theorem sc_check_start : FnScope ["start", "heads"] ["start", "heads"] (defScope s_check_start) := ⟨rfl, rfl, rfl, by decide +kernel, rfl, by decide +kernel, by decide +kernel⟩
theorem sc_check_sums : FnScope ["heads", "rules", "head", "total", "rule"] ["heads", "rules"] (defScope s_check_sums) := ⟨rfl, rfl, rfl, by decide +kernel, rfl, by decide +kernel, by decide +kernel⟩
theorem sc_heads_of : FnScope ["rules", "heads", "rule"] ["rules"] (defScope s_heads_of) := ⟨rfl, rfl, rfl, by decide +kernel, rfl, by decide +kernel, by decide +kernel⟩
theorem sc_live_of : FnScope ["heads", "rules", "live", "grown", "found"] ["heads", "rules"] (defScope s_live_of) := ⟨rfl, rfl, rfl, by decide +kernel, rfl, by decide +kernel, by decide +kernel⟩
theorem sc_has_live_body : FnScope ["head", "rules", "heads", "live"] ["head", "rules", "heads", "live"] (defScope s_has_live_body) := ⟨rfl, rfl, rfl, by decide +kernel, rfl, by decide +kernel, by decide +kernel⟩
theorem sc_is_live_body : FnScope ["body", "heads", "live"] ["body", "heads", "live"] (defScope s_is_live_body) := ⟨rfl, rfl, rfl, by decide +kernel, rfl, by decide +kernel, by decide +kernel⟩
theorem sc_law_cell_at : FnScope ["_law_script", "_law_k"] ["_law_script", "_law_k"] (defScope s_law_cell_at) := ⟨rfl, rfl, rfl, by decide +kernel, rfl, by decide +kernel, by decide +kernel⟩
theorem sc_law_dice : FnScope ["_law_cell"] ["_law_cell"] (defScope s_law_dice) := ⟨rfl, rfl, rfl, by decide +kernel, rfl, by decide +kernel, by decide +kernel⟩
theorem sc_law_roll : FnScope ["_law_dice_here", "_law_most"] ["_law_dice_here", "_law_most"] (defScope s_law_roll) := ⟨rfl, rfl, rfl, by decide +kernel, rfl, by decide +kernel, by decide +kernel⟩
theorem sc_law_whole : FnScope ["_law_found"] ["_law_found"] (defScope s_law_whole) := ⟨rfl, rfl, rfl, by decide +kernel, rfl, by decide +kernel, by decide +kernel⟩
theorem sc_law_symbols : FnScope ["_law_cell", "_law_many", "_law_letters", "_law_size", "_law_at", "_law_out", "_law_k", "_law_name", "_law_place", "_law_step"] ["_law_cell", "_law_many"] (defScope s_law_symbols) := ⟨rfl, rfl, rfl, by decide +kernel, rfl, by decide +kernel, by decide +kernel⟩
theorem sc_law_share : FnScope ["_law_top", "_law_bottom", "_law_one", "_law_other", "_law_rest"] ["_law_top", "_law_bottom"] (defScope s_law_share) := ⟨rfl, rfl, rfl, by decide +kernel, rfl, by decide +kernel, by decide +kernel⟩
theorem sc_law_timed : FnScope ["_law_one", "_law_other"] ["_law_one", "_law_other"] (defScope s_law_timed) := ⟨rfl, rfl, rfl, by decide +kernel, rfl, by decide +kernel, by decide +kernel⟩
theorem sc_law_is_share : FnScope ["_law_found"] ["_law_found"] (defScope s_law_is_share) := ⟨rfl, rfl, rfl, by decide +kernel, rfl, by decide +kernel, by decide +kernel⟩
theorem sc_law_bodies : FnScope ["_law_dice_here", "_law_heads", "_law_words_here", "_law_first", "_law_out", "_law_k", "_law_body", "_law_place", "_law_some"] ["_law_dice_here", "_law_heads", "_law_words_here", "_law_first"] (defScope s_law_bodies) := ⟨rfl, rfl, rfl, by decide +kernel, rfl, by decide +kernel, by decide +kernel⟩
theorem sc_law_rules : FnScope ["_law_dice_here", "_law_heads", "_law_words_here", "_law_out", "_law_head", "_law_bodies_here", "_law_weights", "_law_body", "_law_weight"] ["_law_dice_here", "_law_heads", "_law_words_here"] (defScope s_law_rules) := ⟨rfl, rfl, rfl, by decide +kernel, rfl, by decide +kernel, by decide +kernel⟩
theorem sc_law_made : FnScope ["_law_cell", "_law_other", "_law_most", "_law_symbols_here", "_law_dice_here", "_law_heads", "_law_words_here"] ["_law_cell", "_law_other", "_law_most"] (defScope s_law_made) := ⟨rfl, rfl, rfl, by decide +kernel, rfl, by decide +kernel, by decide +kernel⟩
theorem sc_law_tree : FnScope ["_law_dice_here", "_law_rules_here", "_law_head", "_law_deep", "_law_some", "_law_headed", "_law_at", "_law_flat", "_law_parts", "_law_symbol", "_law_part"] ["_law_dice_here", "_law_rules_here", "_law_head", "_law_deep"] (defScope s_law_tree) := ⟨rfl, rfl, rfl, by decide +kernel, rfl, by decide +kernel, by decide +kernel⟩
theorem sc_law_words : FnScope ["_law_tree_here", "_law_out", "_law_part"] ["_law_tree_here"] (defScope s_law_words) := ⟨rfl, rfl, rfl, by decide +kernel, rfl, by decide +kernel, by decide +kernel⟩
theorem sc_law_share_of : FnScope ["_law_rules_here", "_law_tree_here", "_law_found", "_law_part"] ["_law_rules_here", "_law_tree_here"] (defScope s_law_share_of) := ⟨rfl, rfl, rfl, by decide +kernel, rfl, by decide +kernel, by decide +kernel⟩
theorem sc_law_is_tree : FnScope ["_law_rules_here", "_law_symbol", "_law_thing", "_law_body", "_law_one", "_law_part"] ["_law_rules_here", "_law_symbol", "_law_thing"] (defScope s_law_is_tree) := ⟨rfl, rfl, rfl, by decide +kernel, rfl, by decide +kernel, by decide +kernel⟩
theorem sc_law_spoilt : FnScope ["_law_rules_here", "_law_tree_here", "_law_cell", "_law_many", "_law_way", "_law_parts", "_law_inner"] ["_law_rules_here", "_law_tree_here", "_law_cell"] (defScope s_law_spoilt) := ⟨rfl, rfl, rfl, by decide +kernel, rfl, by decide +kernel, by decide +kernel⟩
theorem sc_law : FnScope ["_law_script", "_law_made_here", "_law_rules_here", "_law_dice_here", "_law_head", "_law_tree_here", "_law_grammar", "_law_found", "_law_other", "_law_due", "_law_symbol"] ["_law_script"] (defScope s_law) := ⟨rfl, rfl, rfl, by decide +kernel, rfl, by decide +kernel, by decide +kernel⟩
section
variable {P : Program} {w : World} {K : PySem.W.Frag} {mg : Str → Option Value} {base : Heap} {C_Grammar : Addr}
theorem ok_common_divisor  (d : DefK K mg "common_divisor" s_common_divisor ["one", "other"])  : OkF P w K mg base CX0 2 "common_divisor" ["one", "other"] (spP K 2 C_gcd) := by
  refine ok_pure d sc_common_divisor rfl fun f cdv A outer s H E hr ds r hC B hB => ?_
  obtain ⟨a, b, rfl, rfl, ha, hb⟩ := hC
  refine w_while PassesOwn.never (fun Γ _ => ∃ (x y : Int) (z : Option D), Γ = [some (.int x), some (.int y), z] ∧ 0 ≤ x ∧ 0 ≤ y ∧ My.G x y = My.G a b) (fun Γ _ => match Γ with | [_, some (.int y), _] => y.toNat | _ => 0) ⟨a, b, none, rfl, ha, hb, rfl⟩ ?_
  rintro Γ Ω ⟨x, y, z, rfl, hx, hy, hg⟩
  refine ⟨_, (t_cmp (c_gt (p_var (i := 1) rfl (.inl rfl) rfl) p_int)), fun hk => ?_, fun hk => ?_⟩
  · have hk := of_decide_eq_true hk
    refine w_set (i := 2) sc_common_divisor.nd rfl (.inl rfl) (p_mod (p_var (i := 0) rfl (.inl rfl) rfl) (p_var (i := 1) rfl (.inl rfl) rfl) ?_) ?_
    · exact hk
    refine w_set (i := 0) sc_common_divisor.nd rfl (.inl rfl) (p_var (i := 1) rfl (.inl rfl) rfl) ?_
    refine w_set (i := 1) sc_common_divisor.nd rfl (.inl rfl) (p_var (i := 2) rfl (.inl rfl) rfl) ?_
    refine w_nil ⟨⟨y, x % y, _, rfl, hy, (emod_in hk).1, (G_turnE hx hk).trans hg⟩, ?_⟩
    have := emod_in (a := x) hk
    show (x % y).toNat < y.toNat
    omega
  · have hk := of_decide_eq_false hk
    refine w_ret (p_var (i := 0) rfl (.inl rfl) rfl) ?_
    have y0 : y = 0 := by omega
    subst y0
    rw [My.G_end hx] at hg
    show D.int x = D.int (My.G a b)
    rw [hg]
theorem ok_share (ht : P.given.tree = none) (d : DefK K mg "share" s_share ["top", "bottom"]) (o_common_divisor : OkF P w K mg base CX0 2 "common_divisor" ["one", "other"] (spP K 2 C_gcd)) : OkF P w K mg base CX0 33 "share" ["top", "bottom"] (spP K 2 C_share) := by
  refine ok_pure d sc_share rfl fun f cdv A outer s H E hr ds r hC B hB => ?_
  obtain ⟨t, b, rfl, rfl, h1, h2⟩ := hC
  have py : Pyl (cx0 P w K mg base ["top", "bottom", "divisor"] "share" s_share f cdv A outer s H E) := (pyl_cx ht rfl rfl hr (Nat.le_refl _)).nox
  have g0 := My.G_pos (a := t) h2
  refine w_if (t_cmp (c_lt (p_var (i := 0) rfl (.inl rfl) rfl) p_int)) ?_ ?_
  · intro hk; have hk := of_decide_eq_true hk; omega
  · intro hk
    refine w_nil ?_
    refine w_if (t_cmp (c_lt (p_var (i := 1) rfl (.inl rfl) rfl) p_int)) ?_ ?_
    · intro hk; have hk := of_decide_eq_true hk; omega
    · intro hk
      refine w_nil ?_
      refine w_set (i := 2) sc_share.nd rfl (.inl rfl) (p_call (d := .int (My.G t b)) o_common_divisor (hr.mono (by decide)) rfl (pl_cons (p_var (i := 0) rfl (.inl rfl) rfl) (pl_cons (p_var (i := 1) rfl (.inl rfl) rfl) pl_nil)) ?_) ?_
      · exact ⟨t, b, rfl, rfl, h1, Int.le_of_lt h2⟩
      refine w_ret (p_tup (pl_cons (p_fdivP py (p_var (i := 0) rfl (.inl rfl) rfl) (p_var (i := 2) rfl (.inl rfl) rfl) ?_) (pl_cons (p_fdivP py (p_var (i := 1) rfl (.inl rfl) rfl) (p_var (i := 2) rfl (.inl rfl) rfl) ?_) pl_nil))) ?_
      · exact g0
      · exact g0
      show D.tup [D.int (t / My.G t b), D.int (b / My.G t b)] = sh (Rat.divInt t b)
      unfold sh
      rw [← My.num_share h2, ← My.den_share h2, Int.fdiv_eq_ediv_of_nonneg _ (Int.le_of_lt g0), Int.fdiv_eq_ediv_of_nonneg _ (Int.le_of_lt g0)]
theorem ok_added (ht : P.given.tree = none) (d : DefK K mg "added" s_added ["one", "other"]) (o_common_divisor : OkF P w K mg base CX0 2 "common_divisor" ["one", "other"] (spP K 2 C_gcd)) : OkF P w K mg base CX0 33 "added" ["one", "other"] (spP K 2 C_added) := by
  refine ok_pure d sc_added rfl fun f cdv A outer s H E hr ds r hC B hB => ?_
  obtain ⟨p, q, m, n, rfl, rfl, hp, hq, s1, s2, l1, l2, -⟩ := hC
  have py : Pyl (cx0 P w K mg base ["one", "other", "divisor", "top", "left"] "added" s_added f cdv A outer s H E) := (pyl_cx ht rfl rfl hr (by decide)).nox
  have g0 : 0 < My.G p.den q.den := My.G_pos (My.den_pos' q)
  have n1 := My.q_num_nn hp
  have n2 := My.q_num_nn hq
  have c1 := dv_le (a := (p.den : Int)) (g := My.G p.den q.den) (Int.le_of_lt (My.den_pos' p)) g0
  have c2 := dv_le (a := (q.den : Int)) (g := My.G p.den q.den) (Int.le_of_lt (My.den_pos' q)) g0
  refine w_set (i := 2) sc_added.nd rfl (.inl rfl) (p_call (d := .int (My.G p.den q.den)) o_common_divisor (hr.mono (by decide)) rfl (pl_cons (p_ixT (p_var (i := 0) rfl (.inl rfl) rfl) p_int rfl) (pl_cons (p_ixT (p_var (i := 1) rfl (.inl rfl) rfl) p_int rfl) pl_nil)) ?_) ?_
  · exact ⟨_, _, rfl, rfl, Int.le_of_lt (My.den_pos' p), Int.le_of_lt (My.den_pos' q)⟩
  refine w_set (i := 3) sc_added.nd rfl (.inl rfl) (p_add (p_mul (p_ixT (p_var (i := 0) rfl (.inl rfl) rfl) p_int rfl) (p_fdivP py (p_ixT (p_var (i := 1) rfl (.inl rfl) rfl) p_int rfl) (p_var (i := 2) rfl (.inl rfl) rfl) ?_) ?_) (p_mul (p_ixT (p_var (i := 1) rfl (.inl rfl) rfl) p_int rfl) (p_fdivP py (p_ixT (p_var (i := 0) rfl (.inl rfl) rfl) p_int rfl) (p_var (i := 2) rfl (.inl rfl) rfl) ?_) ?_)) ?_
  · exact g0
  · exact mul_fit s1.1 (dv_fit c2 (den_abs s2)) (by have : big = 67108864 := rfl; omega)
  · exact g0
  · exact mul_fit s2.1 (dv_fit c1 (den_abs s1)) (by have : big = 67108864 := rfl; omega)
  have t0 : 0 ≤ p.num * ((q.den : Int) / My.G p.den q.den) + q.num * ((p.den : Int) / My.G p.den q.den) := Int.add_nonneg (Int.mul_nonneg n1 c2.1) (Int.mul_nonneg n2 c1.1)
  have e := My.add_num n1 n2
  generalize hT : p.num * ((q.den : Int) / My.G p.den q.den) + q.num * ((p.den : Int) / My.G p.den q.den) = T at *
  have h0 : 0 < My.G T (My.G p.den q.den) := My.G_pos g0
  have c3 := dv_le (a := (q.den : Int)) (g := My.G T (My.G p.den q.den)) (Int.le_of_lt (My.den_pos' q)) h0
  refine w_set (i := 4) sc_added.nd rfl (.inl rfl) (p_call (d := .int (My.G T (My.G p.den q.den))) o_common_divisor (hr.mono (by decide)) rfl (pl_cons (p_var (i := 3) rfl (.inl rfl) rfl) (pl_cons (p_var (i := 2) rfl (.inl rfl) rfl) pl_nil)) ?_) ?_
  · exact ⟨_, _, rfl, rfl, t0, Int.le_of_lt g0⟩
  refine w_ret (p_tup (pl_cons (p_fdivP py (p_var (i := 3) rfl (.inl rfl) rfl) (p_var (i := 4) rfl (.inl rfl) rfl) ?_) (pl_cons (p_mul (p_fdivP py (p_ixT (p_var (i := 0) rfl (.inl rfl) rfl) p_int rfl) (p_var (i := 2) rfl (.inl rfl) rfl) ?_) (p_fdivP py (p_ixT (p_var (i := 1) rfl (.inl rfl) rfl) p_int rfl) (p_var (i := 4) rfl (.inl rfl) rfl) ?_) ?_) pl_nil))) ?_
  · exact h0
  · exact g0
  · exact h0
  · exact mul_fit (dv_fit c1 (den_abs s1)) (dv_fit c3 (den_abs s2)) (by have : big = 67108864 := rfl; omega)
  show D.tup [D.int (T / My.G T (My.G p.den q.den)), D.int ((p.den : Int) / My.G p.den q.den * ((q.den : Int) / My.G T (My.G p.den q.den)))] = sh (p + q)
  unfold sh
  rw [e.1, e.2]
theorem ok_timed  (d : DefK K mg "timed" s_timed ["one", "other"]) (o_share : OkF P w K mg base CX0 33 "share" ["top", "bottom"] (spP K 2 C_share)) : OkF P w K mg base CX0 34 "timed" ["one", "other"] (spP K 2 C_timed) := by
  refine ok_pure d sc_timed rfl fun f cdv A outer s H E hr ds r hC B hB => ?_
  obtain ⟨p, q, m, n, rfl, rfl, hp, hq, s1, s2, l1, l2, -⟩ := hC
  have n1 := My.q_num_nn hp
  have n2 := My.q_num_nn hq
  have z1 := sz_divInt (n := max m n) (My.den_pos' q) (Nat.lt_of_lt_of_le s1.1 (pow_mono (Nat.le_max_left m n))) (Nat.lt_of_lt_of_le (den_abs s2) (pow_mono (Nat.le_max_right m n)))
  have z2 := sz_divInt (n := max m n) (My.den_pos' p) (Nat.lt_of_lt_of_le s2.1 (pow_mono (Nat.le_max_right m n))) (Nat.lt_of_lt_of_le (den_abs s1) (pow_mono (Nat.le_max_left m n)))
  refine w_set (i := 2) sc_timed.nd rfl (.inl rfl) (p_call (d := sh (Rat.divInt p.num q.den)) o_share (hr.mono (by decide)) rfl (pl_cons (p_ixT (p_var (i := 0) rfl (.inl rfl) rfl) p_int rfl) (pl_cons (p_ixT (p_var (i := 1) rfl (.inl rfl) rfl) p_int rfl) pl_nil)) ?_) ?_
  · exact ⟨_, _, rfl, rfl, n1, My.den_pos' q⟩
  refine w_set (i := 3) sc_timed.nd rfl (.inl rfl) (p_call (d := sh (Rat.divInt q.num p.den)) o_share (hr.mono (by decide)) rfl (pl_cons (p_ixT (p_var (i := 1) rfl (.inl rfl) rfl) p_int rfl) (pl_cons (p_ixT (p_var (i := 0) rfl (.inl rfl) rfl) p_int rfl) pl_nil)) ?_) ?_
  · exact ⟨_, _, rfl, rfl, n2, My.den_pos' p⟩
  refine w_ret (p_tup (pl_cons (p_mul (p_ixT (p_var (i := 2) rfl (.inl rfl) rfl) p_int rfl) (p_ixT (p_var (i := 3) rfl (.inl rfl) rfl) p_int rfl) ?_) (pl_cons (p_mul (p_ixT (p_var (i := 2) rfl (.inl rfl) rfl) p_int rfl) (p_ixT (p_var (i := 3) rfl (.inl rfl) rfl) p_int rfl) ?_) pl_nil))) ?_
  · exact fit_nn z1 z2 (by omega) (by omega)
  · exact fit_dd z1 z2 (by omega) (by omega)
  show D.tup [D.int ((Rat.divInt p.num q.den).num * (Rat.divInt q.num p.den).num), D.int (((Rat.divInt p.num q.den).den : Int) * ((Rat.divInt q.num p.den).den : Int))] = sh (p * q)
  exact (sh_mul p q).symm
end
end Law
set_option Elab.async false
set_option linter.all false
set_option maxRecDepth 100000
set_option maxHeartbeats 4000000
namespace Law
open PySem L2 L3
section
variable {P : Program} {w : World} {K : PySem.W.Frag} {mg : Str → Option Value} {base : Heap} {C_Grammar : Addr}
theorem ok_law_words (z : Zs mg) (d : DefK K mg "_law_words" s_law_words ["_law_tree_here"]) : ∀ n, OkF P w K mg base CX0 (n + 1) "_law_words" ["_law_tree_here"] (spP K 1 (C_words n)) := by
  intro n
  induction n with
  | zero =>
    refine ok_pure d sc_law_words rfl fun f cdv A outer s H E hr ds r hC B hB => ?_
    obtain ⟨t, rfl, rfl, hd, hz⟩ := hC
    cases t with
    | nd r ps => rw [dpt] at hd; omega
    | lf w' =>
      rw [trD, wds]
      refine w_if (t_val (p_isin (k := true) z.isinstance rfl (p_var (i := 0) rfl (.inl rfl) rfl) (p_bltn rfl z.str bt_str (v := .ty "str") rfl) rfl (by rfl) (fun z => nomatch z))) ?_ ?_
      · intro _
        refine w_ret (p_tup (pl_cons (p_var (i := 0) rfl (.inl rfl) rfl) pl_nil)) ?_
        rfl
      · intro h; cases h
  | succ n ih =>
    refine ok_pure d sc_law_words rfl fun f cdv A outer s H E hr ds r hC B hB => ?_
    obtain ⟨t, rfl, rfl, hd, hz⟩ := hC
    cases t with
    | lf w' =>
      rw [trD, wds]
      refine w_if (t_val (p_isin (k := true) z.isinstance rfl (p_var (i := 0) rfl (.inl rfl) rfl) (p_bltn rfl z.str bt_str (v := .ty "str") rfl) rfl (by rfl) (fun z => nomatch z))) ?_ ?_
      · intro _
        refine w_ret (p_tup (pl_cons (p_var (i := 0) rfl (.inl rfl) rfl) pl_nil)) ?_
        rfl
      · intro h; cases h
    | nd r ps =>
      rw [trD, wds]
      rw [dpt] at hd
      rw [wds, wdsL_flat] at hz
      refine w_if (t_val (p_isin (k := false) z.isinstance rfl (p_var (i := 0) rfl (.inl rfl) rfl) (p_bltn rfl z.str bt_str (v := .ty "str") rfl) rfl (by rfl) (fun z => nomatch z))) ?_ ?_
      · intro h; cases h
      · intro _
        refine w_nil ?_
        refine w_set (i := 1) sc_law_words.nd rfl (.inl rfl) (p_tup pl_nil) ?_
        refine w_for PassesOwn.never rfl (i_tup (p_ixT (p_var (i := 0) rfl (.inl rfl) rfl) p_int rfl)) (fun i Γ _ => ∃ a, Γ = [some (.tup [.int r, .tup (trsD ps)]), some (bodyD ((ps.take i).flatMap wds)), a]) ⟨none, rfl⟩ ?_ ?_
        · rintro i d Γ Ω hd' ⟨a, rfl⟩
          obtain ⟨t, ht, rfl⟩ := trs_get hd'
          have tm := List.mem_of_getElem? ht
          have td := dpts_mem tm
          have e2 : (ps.take (i + 1)).flatMap wds = (ps.take i).flatMap wds ++ wds t := by rw [take_getT ht, List.flatMap_append]; simp
          have l2 := wds_sub (ts := ps) (i := i + 1)
          rw [e2, List.length_append] at l2
          refine ⟨_, (g_name (i := 2) sc_law_words.nd rfl (.inl rfl)), ?_⟩
          refine w_set (i := 1) sc_law_words.nd rfl (.inl rfl) (p_catT (p_var (i := 1) rfl (.inl rfl) rfl) (p_call (d := bodyD (wds t)) ih (hr.mono (by omega)) rfl (pl_cons (p_var (i := 2) rfl (.inl rfl) rfl) pl_nil) ?_) ?_) ?_
          · exact ⟨t, rfl, rfl, by omega, by omega⟩
          · rw [List.length_map, List.length_map, sizeLine_eq]; omega
          refine w_nil ⟨some (trD t), ?_⟩
          rw [e2]
          unfold bodyD
          rw [List.map_append]
          rfl
        · rintro Γ Ω ⟨a, rfl⟩
          refine w_ret (p_var (i := 1) rfl (.inl rfl) rfl) ?_
          rw [trsD_len, List.take_length, wdsL_flat]
theorem ok_law_share_of (z : Zs mg) (d : DefK K mg "_law_share_of" s_law_share_of ["_law_rules_here", "_law_tree_here"]) (o_law_timed : OkF P w K mg base CX0 34 "_law_timed" ["_law_one", "_law_other"] (spP K 2 C_timed)) : ∀ n, OkF P w K mg base CX0 (n + 36) "_law_share_of" ["_law_rules_here", "_law_tree_here"] (spP K 2 (C_shT n)) := by
  intro n
  induction n with
  | zero =>
    refine ok_pure d sc_law_share_of rfl fun f cdv A outer s H E hr ds r hC B hB => ?_
    obtain ⟨rs, t, rfl, rfl, hd, hi, hs, hn, hz⟩ := hC
    cases t with
    | nd r ps => rw [dpt] at hd; omega
    | lf w' =>
      rw [trD, shT]
      refine w_if (t_val (p_isin (k := true) z.isinstance rfl (p_var (i := 1) rfl (.inl rfl) rfl) (p_bltn rfl z.str bt_str (v := .ty "str") rfl) rfl (by rfl) (fun z => nomatch z))) ?_ ?_
      · intro _
        refine w_ret (p_tup (pl_cons p_int (pl_cons p_int pl_nil))) ?_
        rfl
      · intro h; cases h
  | succ n ih =>
    refine ok_pure d sc_law_share_of rfl fun f cdv A outer s H E hr ds r hC B hB => ?_
    obtain ⟨rs, t, rfl, rfl, hd, hi, hs, hn, hz⟩ := hC
    cases t with
    | lf w' =>
      rw [trD, shT]
      refine w_if (t_val (p_isin (k := true) z.isinstance rfl (p_var (i := 1) rfl (.inl rfl) rfl) (p_bltn rfl z.str bt_str (v := .ty "str") rfl) rfl (by rfl) (fun z => nomatch z))) ?_ ?_
      · intro _
        refine w_ret (p_tup (pl_cons p_int (pl_cons p_int pl_nil))) ?_
        rfl
      · intro h; cases h
    | nd r ps =>
      rw [trD, shT]
      rw [dpt] at hd
      rw [inR] at hi
      rw [nds] at hn
      rw [wds] at hz
      obtain ⟨q, hq⟩ : ∃ q, rs[r]? = some q := ⟨_, List.getElem?_eq_getElem hi.1⟩
      have hq' := hs q (List.mem_of_getElem? hq)
      have al := inRL_all.mp hi.2
      rw [hq]
      refine w_if (t_val (p_isin (k := false) z.isinstance rfl (p_var (i := 1) rfl (.inl rfl) rfl) (p_bltn rfl z.str bt_str (v := .ty "str") rfl) rfl (by rfl) (fun z => nomatch z))) ?_ ?_
      · intro h; cases h
      · intro _
        refine w_nil ?_
        refine w_set (i := 2) sc_law_share_of.nd rfl (.inl rfl) (p_ixT (p_ixL (d := ruleD q) (p_var (i := 0) rfl (.inl rfl) rfl) (p_ixT (p_var (i := 1) rfl (.inl rfl) rfl) p_int rfl) ?_) p_int rfl) ?_
        · refine atI_nat ?_
          unfold rulesD
          rw [List.getElem?_map, hq]
          rfl
        have tk : ∀ i, 0 ≤ shTL rs (ps.take i) ∧ Sz 7001 (shTL rs (ps.take i)) := fun i => by
          have h1 := shTL_ok hs (ts := ps.take i) (inRL_all.mpr fun t ht => al t (List.mem_of_mem_take ht))
          refine ⟨h1.1, h1.2.mono ?_⟩
          have h2 := ndsL_take (ts := ps) (i := i)
          have h3 := wds_sub (ts := ps) (i := i)
          rw [← wdsL_flat, ← wdsL_flat] at h3
          omega
        refine w_for PassesOwn.never rfl (i_tup (p_ixT (p_var (i := 1) rfl (.inl rfl) rfl) p_int rfl)) (fun i Γ _ => ∃ a, Γ = [some (.lst (rulesD rs)), some (.tup [.int r, .tup (trsD ps)]), some (sh (q.2.2 * shTL rs (ps.take i))), a]) ⟨none, ?_⟩ ?_ ?_
        · rw [List.take_zero, shTL, Rat.mul_one]
          rfl
        · rintro i d Γ Ω hd' ⟨a, rfl⟩
          obtain ⟨t, ht, rfl⟩ := trs_get hd'
          have tm := List.mem_of_getElem? ht
          have td := dpts_mem tm
          have tn := ndsL_mem tm
          have tw := wds_mem tm
          have ti := shT_ok hs (al t tm)
          have e2 : q.2.2 * shTL rs (ps.take (i + 1)) = q.2.2 * shTL rs (ps.take i) * shT rs t := by
            rw [take_getT ht, shTL_prod, shTL_prod, List.map_append, List.map_cons, List.map_nil, prodQ_snoc, Rat.mul_assoc]
          refine ⟨_, (g_name (i := 3) sc_law_share_of.nd rfl (.inl rfl)), ?_⟩
          refine w_set (i := 2) sc_law_share_of.nd rfl (.inl rfl) (p_call (d := sh (q.2.2 * shTL rs (ps.take i) * shT rs t)) o_law_timed (hr.mono (by omega)) rfl (pl_cons (p_var (i := 2) rfl (.inl rfl) rfl) (pl_cons (p_call (d := sh (shT rs t)) ih (hr.mono (by omega)) rfl (pl_cons (p_var (i := 0) rfl (.inl rfl) rfl) (pl_cons (p_var (i := 3) rfl (.inl rfl) rfl) pl_nil)) ?_) pl_nil)) ?_) ?_
          · exact ⟨rs, t, rfl, rfl, by omega, al t tm, hs, by omega, by omega⟩
          · refine ⟨_, _, 5 + 7001, 6 * nds t + (wds t).length, rfl, rfl, q_nn_mul hq'.1 (tk i).1, ti.1, sz_mul hq'.2 (tk i).2, ti.2, by decide, ?_, trivial⟩
            have : big = 67108864 := rfl
            omega
          refine w_nil ⟨some (trD t), ?_⟩
          rw [e2]
          rfl
        · rintro Γ Ω ⟨a, rfl⟩
          refine w_ret (p_var (i := 2) rfl (.inl rfl) rfl) ?_
          rw [trsD_len, List.take_length]
          rfl
end
end Law
set_option Elab.async false
set_option linter.all false
set_option maxRecDepth 100000
set_option maxHeartbeats 4000000
namespace Law
open PySem L2 L3
section
variable {P : Program} {w : World} {K : PySem.W.Frag} {mg : Str → Option Value} {base : Heap} {C_Grammar : Addr}
theorem ok_Grammar_rules (z : Zs mg) (c_Grammar : ClsG K C_Grammar) (d : MethK K C_Grammar "rules" "Grammar.rules" s_Grammar_rules ["self"])  : OkM P w K mg base CX0 2 C_Grammar "rules" ["self"] (spF K 1 (C_gRules C_Grammar)) := by
  refine om_fresh d sc_Grammar_rules rfl fun f cdv A outer s H E hr ds gs hC B hB => ?_
  obtain ⟨st, rs, rfl, rfl⟩ := hC
  exact w_retV (v_fresh (pf_list z.list rfl (p_fld (p_var (i := 0) rfl (.inl rfl) rfl) c_Grammar.c c_Grammar.n_kept_rules rfl) (.inl rfl)) fun p => ⟨p, rfl, rfl⟩)
theorem ok_share_of (z : Zs mg) (c_Grammar : ClsG K C_Grammar) (g_ONE : GlobD K mg "ONE" (sh 1)) (d : DefK K mg "share_of" s_share_of ["grammar", "tree"]) (o_timed : OkF P w K mg base CX0 34 "timed" ["one", "other"] (spP K 2 C_timed)) (o_Grammar_rules : OkM P w K mg base CX0 2 C_Grammar "rules" ["self"] (spF K 1 (C_gRules C_Grammar))) : OkF P w K mg base CX0 35 "share_of" ["grammar", "tree"] (spP K 2 (C_shareOf C_Grammar)) := by
  refine ok_pure d sc_share_of rfl fun f cdv A outer s H E hr ds r hC B hB => ?_
  obtain ⟨st, rs, t, rfl, rfl, ht, hi, hs, hn, hz⟩ := hC
  refine w_set (i := 2) sc_share_of.nd rfl (.inl rfl) (PF3.p (pf_meth0 (ds := rulesD rs) o_Grammar_rules c_Grammar.c (hr.mono (by decide)) (p_var (i := 0) rfl (.inl rfl) rfl) nm_Grammar_rules ?_)) ?_
  · exact ⟨st, rs, rfl, rfl⟩
  refine w_set (i := 3) sc_share_of.nd rfl (.inl rfl) (p_globD g_ONE rfl) ?_
  refine w_own (i := 4) sc_share_of.nd rfl (.inl rfl) (pf_lst (pl_cons (p_var (i := 1) rfl (.inl rfl) rfl) pl_nil)) fun l => ?_
  refine w_whileV PassesOwn.never (fun m Γ Ω => ∃ (us : List Tr) (q : Rat) (a : Option D), Γ = [some (gD C_Grammar st rs), some (trD t), some (.lst (rulesD rs)), some (sh q), some (.raw (.ref l)), a] ∧ Ω = [(l, oLst K (trsD us))] ∧ (∀ u ∈ us, isNd u = true ∧ inR rs.length u) ∧ q * shTL rs us = shT rs t ∧ 0 ≤ q ∧ Sz (1 + 5 * (nds t - ndsL us)) q ∧ ndsL us ≤ nds t ∧ m = ndsL us) (n := nds t) ⟨[t], 1, _, rfl, ?_, ?_, ?_, by decide, sz_1.mono (by omega), ?_, ?_⟩ ?_
  · rw [trsD, trsD]; rfl
  · intro u hu; rw [List.mem_singleton.mp hu]; exact ⟨ht, hi⟩
  · rw [shTL, shTL]; grind
  · rw [ndsL, ndsL]; omega
  · rw [ndsL, ndsL]; omega
  rintro m Γ Ω ⟨us, q, a, rfl, rfl, hu, e, q0, qs, un, rfl⟩
  refine vt_ownL (i := 4) rfl (.inl rfl) rfl (List.mem_singleton.mpr rfl) ⟨fun hk => ?_, fun hk => ?_⟩
  · have ne : us ≠ [] := by
      rintro rfl
      simp [trsD] at hk
    obtain ⟨vs, v, rfl⟩ : ∃ vs v, us = vs ++ [v] := ⟨us.dropLast, us.getLast ne, (List.dropLast_concat_getLast ne).symm⟩
    have hv := hu v (by simp)
    cases v with
    | lf w' => exact absurd hv.1 (by simp [isNd])
    | nd r ps =>
      have hvi := hv.2
      rw [inR] at hvi
      have al := inRL_all.mp hvi.2
      obtain ⟨p, hp⟩ : ∃ p, rs[r]? = some p := ⟨_, List.getElem?_eq_getElem hvi.1⟩
      have hp' := hs p (List.mem_of_getElem? hp)
      have en : ndsL (vs ++ [Tr.nd r ps]) = ndsL vs + (ndsL ps + 1) := by rw [ndsL_app, ndsL, ndsL, nds, Nat.add_zero]
      rw [en] at un qs
      rw [trsD_app, trsD, trsD]
      refine w_setV (i := 5) sc_share_of.nd rfl (.inl rfl) (v_popL (i := 4) rfl (.inl rfl) rfl ?_)
      rw [trD]
      have bg : big = 67108864 := rfl
      refine w_set (i := 3) sc_share_of.nd rfl (.inl rfl) (p_call (d := sh (q * p.2.2)) o_timed (hr.mono (by decide)) rfl (pl_cons (p_var (i := 3) rfl (.inl rfl) rfl) (pl_cons (p_ixT (p_ixL (d := ruleD p) (p_var (i := 2) rfl (.inl rfl) rfl) (p_ixT (p_var (i := 5) rfl (.inl rfl) rfl) p_int rfl) ?_) p_int rfl) pl_nil)) ?_) ?_
      · refine atI_nat ?_
        unfold rulesD
        rw [List.getElem?_map, hp]
        rfl
      · exact ⟨q, p.2.2, _, 5, rfl, rfl, q0, hp'.1, qs, hp'.2, by omega, by omega, trivial⟩
      have fl : ∀ i, (trsD ((ps.take i).filter isNd)).length ≤ 1000 := fun i => by
        rw [trsD_len]
        have h1 := ndsL_len (ts := (ps.take i).filter isNd) fun t ht => (List.mem_filter.mp ht).2
        rw [ndsL_nodes] at h1
        have h2 := ndsL_take (ts := ps) (i := i)
        omega
      refine w_extend (i := 4) rfl (.inl rfl) rfl (pf_comp (SX := defScope s_share_of) (XN := ["grammar", "tree", "rules", "product", "waiting", "part"]) (N := ["inner"]) (nt := 1) (caps := []) (pre := (fun i => trsD ((ps.take i).filter isNd))) ⟨rfl, by decide +kernel, by decide +kernel, by decide +kernel, rfl, by decide +kernel⟩ (i_tup (p_ixT (p_var (i := 5) rfl (.inl rfl) rfl) p_int rfl)) ?_ ?_ ?_) ?_ ?_
      · intro i _; rw [sizeLine_eq]; have := fl i; omega
      · rfl
      · intro c i d hd
        obtain ⟨u, hu', rfl⟩ := trs_get hd
        cases u with
        | lf w' =>
          rw [trD]
          refine ⟨_, (g_name (i := 0) (show List.Nodup (α := Str) ["inner"] by decide +kernel) rfl (.inl rfl)), (Sub.set rfl), .inr ⟨(ts_is (t_not (t_val (p_isin (k := true) z.isinstance rfl (p_var (i := 0) rfl (.inl rfl) rfl) (p_bltn rfl z.str bt_str (v := .ty "str") rfl) rfl (by rfl) (fun z => nomatch z)))) ?_), ?_⟩⟩
          · rfl
          show trsD ((ps.take (i + 1)).filter isNd) = trsD ((ps.take i).filter isNd)
          rw [take_getT hu', List.filter_append, List.filter_cons_of_neg (by simp [isNd])]
          simp
        | nd r' ps' =>
          rw [trD]
          refine ⟨_, (g_name (i := 0) (show List.Nodup (α := Str) ["inner"] by decide +kernel) rfl (.inl rfl)), (Sub.set rfl), .inl ⟨.tup [.int r', .tup (trsD ps')], (ts_is (t_not (t_val (p_isin (k := false) z.isinstance rfl (p_var (i := 0) rfl (.inl rfl) rfl) (p_bltn rfl z.str bt_str (v := .ty "str") rfl) rfl (by rfl) (fun z => nomatch z)))) ?_), (p_var (i := 0) rfl (.inl rfl) rfl), ?_⟩⟩
          · rfl
          · show trsD ((ps.take (i + 1)).filter isNd) = trsD ((ps.take i).filter isNd) ++ [D.tup [.int r', .tup (trsD ps')]]
            rw [take_getT hu', List.filter_append, List.filter_cons_of_pos (by simp [isNd]), trsD_app]
            rw [List.filter_nil, trsD, trsD, trD]
      · rw [trsD_len, trsD_len, trsD_len, List.take_length, sizeLine_eq]
        have h1 := ndsL_len (ts := vs) fun t ht => (hu t (by simp [ht])).1
        have h2 := fl ps.length
        rw [List.take_length, trsD_len] at h2
        omega
      rw [trsD_len, List.take_length, ← trsD_app]
      have e3 : ndsL (vs ++ ps.filter isNd) = ndsL vs + ndsL ps := by rw [ndsL_app, ndsL_nodes]
      refine w_nil ⟨ndsL (vs ++ ps.filter isNd), by omega, vs ++ ps.filter isNd, q * p.2.2, _, rfl, rfl, fun u hu' => ?_, ?_, q_nn_mul q0 hp'.1, (sz_mul qs hp'.2).mono (by omega), by omega, rfl⟩
      · rcases List.mem_append.mp hu' with z | z
        · exact hu u (by simp [z])
        · have := List.mem_filter.mp z
          exact ⟨this.2, al u this.1⟩
      · rw [shTL_app, shTL_nodes]
        rw [shTL_app, shTL, shTL, shT, hp] at e
        have e : q * (shTL rs vs * (p.2.2 * shTL rs ps * 1)) = shT rs t := e
        rw [← e]
        grind
  · have ne : us = [] := by
      cases us with
      | nil => rfl
      | cons u us => simp [trsD] at hk
    subst ne
    refine w_ret (p_var (i := 3) rfl (.inl rfl) rfl) ?_
    rw [shTL, Rat.mul_one] at e
    rw [e]
theorem ok_head_of (z : Zs mg) (c_Grammar : ClsG K C_Grammar) (d : DefK K mg "head_of" s_head_of ["grammar", "tree"]) (o_Grammar_rules : OkM P w K mg base CX0 2 C_Grammar "rules" ["self"] (spF K 1 (C_gRules C_Grammar))) : OkF P w K mg base CX0 3 "head_of" ["grammar", "tree"] (spP K 2 (C_headOf C_Grammar)) := by
  refine ok_pure d sc_head_of rfl fun f cdv A outer s H E hr ds r hC B hB => ?_
  obtain ⟨st, rs, r, ps, q, rfl, rfl, hq⟩ := hC
  rw [trD]
  refine w_ret (p_ixT (p_ixL (d := ruleD q) (PF3.p (pf_meth0 (ds := rulesD rs) o_Grammar_rules c_Grammar.c (hr.mono (by decide)) (p_var (i := 0) rfl (.inl rfl) rfl) nm_Grammar_rules ?_)) (p_ixT (p_var (i := 1) rfl (.inl rfl) rfl) p_int rfl) ?_) p_int rfl) ?_
  · exact ⟨st, rs, rfl, rfl⟩
  · refine atI_nat ?_
    unfold rulesD
    rw [List.getElem?_map, hq]
    rfl
  rfl
end
end Law
set_option Elab.async false
set_option linter.all false
set_option maxRecDepth 100000
set_option maxHeartbeats 4000000
namespace Law
open PySem L2 L3
section
variable {P : Program} {w : World} {K : PySem.W.Frag} {mg : Str → Option Value} {base : Heap} {C_Grammar : Addr}
theorem ok_Grammar_heads (z : Zs mg) (c_Grammar : ClsG K C_Grammar) (d : MethK K C_Grammar "heads" "Grammar.heads" s_Grammar_heads ["self"])  : OkM P w K mg base CX0 2 C_Grammar "heads" ["self"] (spF K 1 (C_gHeads C_Grammar)) := by
  refine om_fresh d sc_Grammar_heads rfl fun f cdv A outer s H E hr ds gs hC B hB => ?_
  obtain ⟨st, rs, rfl, rfl⟩ := hC
  exact w_retV (v_fresh (pf_list z.list rfl (p_fld (p_var (i := 0) rfl (.inl rfl) rfl) c_Grammar.c c_Grammar.n_kept_heads rfl) (.inl rfl)) fun p => ⟨p, rfl, rfl⟩)
theorem ok_fits_rule (z : Zs mg) (d : DefK K mg "fits_rule" s_fits_rule ["rules", "thing"])  : OkF P w K mg base CX0 2 "fits_rule" ["rules", "thing"] (spP K 2 C_fits) := by
  refine ok_pure d sc_fits_rule rfl fun f cdv A outer s H E hr ds r hC B hB => ?_
  obtain ⟨rs, t, rfl, rfl⟩ := hC
  cases t with
  | lf w' =>
    rw [thD, fits_lf]
    refine w_if (PW3.t (tw_or (k' := true) (t_not (t_val (p_isin (k := false) z.isinstance rfl (p_var (i := 1) rfl (.inl rfl) rfl) (p_bltn rfl z.tuple bt_tuple (v := .ty "tuple") rfl) rfl (by rfl) (fun z => nomatch z)))) (fun h => absurd h (by decide)))) (fun _ => ?_) (fun h => absurd h (by decide))
    refine w_ret p_bl ?_
    rfl
  | one r' =>
    rw [thD, fits_one]
    refine w_if (PW3.t (tw_or (t_not (t_val (p_isin (k := true) z.isinstance rfl (p_var (i := 1) rfl (.inl rfl) rfl) (p_bltn rfl z.tuple bt_tuple (v := .ty "tuple") rfl) rfl (by rfl) (fun z => nomatch z)))) (fun h => tw_or1 (t_cmp (c_neI (p_lenT z.len rfl (p_var (i := 1) rfl (.inl rfl) rfl)) p_int))))) (fun _ => ?_) (fun h => absurd (show (!true || !decide ((1 : Int) = 2)) = false from h) (by decide))
    refine w_ret p_bl ?_
    rfl
  | nd r' ps =>
    rw [thD]
    refine w_if (PW3.t (tw_or (t_not (t_val (p_isin (k := true) z.isinstance rfl (p_var (i := 1) rfl (.inl rfl) rfl) (p_bltn rfl z.tuple bt_tuple (v := .ty "tuple") rfl) rfl (by rfl) (fun z => nomatch z)))) (fun h => tw_or1 (t_cmp (c_neI (p_lenT z.len rfl (p_var (i := 1) rfl (.inl rfl) rfl)) p_int))))) (fun h => absurd (show (!true || !decide ((2 : Int) = 2)) = true from h) (by decide)) (fun _ => w_nil ?_)
    refine w_if (PW3.t (tw_or (t_cmp (c_lt (p_ixT (p_var (i := 1) rfl (.inl rfl) rfl) p_int rfl) p_int)) fun _ => (tw_or1 (t_cmp (c_ge (p_ixT (p_var (i := 1) rfl (.inl rfl) rfl) p_int rfl) (p_lenL z.len rfl (p_var (i := 0) rfl (.inl rfl) rfl))))))) ?_ ?_
    · intro hk
      have hk : (decide (r' < 0) || decide (r' ≥ (rulesD rs).length)) = true := hk
      rw [rulesD_len] at hk
      have hn : ruleAt rs r' = none := by
        cases q : ruleAt rs r' with
        | none => rfl
        | some p =>
          obtain ⟨k, rfl, _, hl⟩ := ruleAt_some q
          simp at hk
          omega
      rw [fits_no hn]
      refine w_ret p_bl ?_
      rfl
    · intro hk
      have hk : (decide (r' < 0) || decide (r' ≥ (rulesD rs).length)) = false := hk
      rw [rulesD_len] at hk
      refine w_nil ?_
      cases q : ruleAt rs r' with
      | none =>
        have := ruleAt_none q
        simp at hk
        omega
      | some p =>
        rw [fits_nd q]
        refine w_ret (p_and (p_isin (k := true) z.isinstance rfl (p_ixT (p_var (i := 1) rfl (.inl rfl) rfl) p_int rfl) (p_bltn rfl z.tuple bt_tuple (v := .ty "tuple") rfl) rfl (by rfl) (fun z => nomatch z)) fun _ => (p_one (p_cmp (c_eqI (p_lenT z.len rfl (p_ixT (p_var (i := 1) rfl (.inl rfl) rfl) p_int rfl)) (p_lenT z.len rfl (p_ixT (p_ixL (d := ruleD p) (p_var (i := 0) rfl (.inl rfl) rfl) (p_ixT (p_var (i := 1) rfl (.inl rfl) rfl) p_int rfl) ?_) p_int rfl)))))) ?_
        · exact rule_at q
        show D.bl (true && decide (((thsD ps).length : Int) = ((p.2.1.map D.str).length : Nat))) = _
        rw [thsD_len, List.length_map, Bool.true_and]
        congr 1
        exact decide_eq_decide.mpr (by omega)
theorem ok_due_parts (z : Zs mg) (d : DefK K mg "due_parts" s_due_parts ["rules", "thing"])  : OkF P w K mg base CX0 2 "due_parts" ["rules", "thing"] (spF K 2 C_due) := by
  refine ok_fresh d sc_due_parts rfl fun f cdv A outer s H E hr ds gs hC B hB => ?_
  obtain ⟨rs, r', ps, q, rfl, rfl, hq⟩ := hC
  rw [thD]
  refine w_retV (v_fresh (pf_listZip rfl z.list rfl z.zip rfl (p_ixT (p_ixL (d := ruleD q) (p_var (i := 0) rfl (.inl rfl) rfl) (p_ixT (p_var (i := 1) rfl (.inl rfl) rfl) p_int rfl) ?_) p_int rfl) (p_ixT (p_var (i := 1) rfl (.inl rfl) rfl) p_int rfl)) fun p => ⟨p, rfl, rfl⟩)
  exact rule_at hq
theorem ok_words_of (z : Zs mg) (d : DefK K mg "words_of" s_words_of ["grammar", "tree"])  : OkF P w K mg base CX0 2 "words_of" ["grammar", "tree"] (spP K 2 (C_wordsOf C_Grammar)) := by
  refine ok_pure d sc_words_of rfl fun f cdv A outer s H E hr ds r hC B hB => ?_
  obtain ⟨st, rs, t, rfl, rfl, hz⟩ := hC
  refine w_own (i := 2) sc_words_of.nd rfl (.inl rfl) (pf_lst pl_nil) fun l1 => ?_
  refine w_own (i := 3) sc_words_of.nd rfl (.inl rfl) (pf_lst (pl_cons (p_var (i := 1) rfl (.inl rfl) rfl) pl_nil)) fun l2 => ?_
  refine w_whileV PassesOwn.never (fun m Γ Ω => ∃ (us : List Tr) (ws : List Str) (a : Option D), Γ = [some (gD C_Grammar st rs), some (trD t), some (.raw (.ref l1)), some (.raw (.ref l2)), a] ∧ Ω = [(l2, oLst K (trsD us)), (l1, oLst K (strsD ws))] ∧ ws ++ us.reverse.flatMap wds = wds t ∧ ws.length + szR us ≤ szT (toTh t) ∧ m = szR us) (n := szR [t]) ⟨[t], [], none, rfl, ?_, ?_, ?_, rfl⟩ ?_
  · rw [trsD, trsD]; rfl
  · simp
  · unfold szR; simp
  rintro m Γ Ω ⟨us, ws, a, rfl, rfl, e, hs, rfl⟩
  refine vt_ownL (i := 3) rfl (.inl rfl) rfl (List.mem_cons_self ..) ⟨fun hk => ?_, fun hk => ?_⟩
  · have ne : us ≠ [] := by
      rintro rfl
      simp [trsD] at hk
    obtain ⟨vs, v, rfl⟩ : ∃ vs v, us = vs ++ [v] := ⟨us.dropLast, us.getLast ne, (List.dropLast_concat_getLast ne).symm⟩
    rw [szR_app] at hs ⊢
    rw [trsD_app, trsD, trsD]
    have e1 : szR [v] = szT (toTh v) := by unfold szR; simp
    rw [List.reverse_append, List.reverse_singleton, List.singleton_append, List.flatMap_cons] at e
    have lv := szR_len (us := vs)
    refine w_setV (i := 4) sc_words_of.nd rfl (.inl rfl) (v_popL (i := 3) rfl (.inl rfl) rfl ?_)
    cases v with
    | lf w' =>
      rw [toTh, szT] at e1
      rw [wds] at e
      rw [trD]
      refine w_if (t_val (p_isin (k := true) z.isinstance rfl (p_var (i := 4) rfl (.inl rfl) rfl) (p_bltn rfl z.str bt_str (v := .ty "str") rfl) rfl (by rfl) (fun z => nomatch z))) ?_ ?_
      · intro _
        refine w_perm (List.Perm.swap ..) ?_
        refine w_append (i := 2) rfl (.inl rfl) rfl (p_var (i := 4) rfl (.inl rfl) rfl) (by rw [strsD_len, sizeLine_eq]; omega) ?_
        refine w_perm (List.Perm.swap ..) ?_
        refine w_nil (w_nil ⟨szR vs, by omega, vs, ws ++ [w'], _, rfl, ?_, ?_, ?_, rfl⟩)
        · unfold strsD; rw [List.map_append]; rfl
        · rw [List.append_assoc]; exact e
        · rw [List.length_append, List.length_singleton]; omega
      · intro h; cases h
    | nd r' ps =>
      rw [toTh, szT, szR_to] at e1
      rw [wds, wdsL_flat] at e
      rw [trD]
      have lp := szR_len (us := ps)
      refine w_if (t_val (p_isin (k := false) z.isinstance rfl (p_var (i := 4) rfl (.inl rfl) rfl) (p_bltn rfl z.str bt_str (v := .ty "str") rfl) rfl (by rfl) (fun z => nomatch z))) ?_ ?_
      · intro h; cases h
      · intro _
        refine w_extend (i := 3) rfl (.inl rfl) rfl (pf_listRev rfl z.list rfl z.reversed rfl (p_ixT (p_var (i := 4) rfl (.inl rfl) rfl) p_int rfl)) (by rw [List.length_reverse, trsD_len, trsD_len, sizeLine_eq]; omega) ?_
        rw [trsD_rev, ← trsD_app]
        refine w_nil (w_nil ⟨szR (vs ++ ps.reverse), ?_, vs ++ ps.reverse, ws, _, rfl, rfl, ?_, ?_, rfl⟩)
        · rw [szR_app, szR_rev]; omega
        · rw [List.reverse_append, List.reverse_reverse, List.flatMap_append]; exact e
        · rw [szR_app, szR_rev]; omega
  · have ne : us = [] := by
      cases us with
      | nil => rfl
      | cons u us => simp [trsD] at hk
    subst ne
    refine w_perm (List.Perm.swap ..) (w_freeze (i := 2) rfl ?_)
    refine w_ret (p_tupleOf z.tuple rfl (p_var (i := 2) rfl (.inl rfl) rfl) (.inl rfl)) ?_
    rw [List.reverse_nil, List.flatMap_nil, List.append_nil] at e
    rw [← e]
    rfl
theorem ok_is_tree (z : Zs mg) (c_Grammar : ClsG K C_Grammar) (d : DefK K mg "is_tree" s_is_tree ["grammar", "thing"]) (o_Grammar_rules : OkM P w K mg base CX0 2 C_Grammar "rules" ["self"] (spF K 1 (C_gRules C_Grammar))) (o_Grammar_heads : OkM P w K mg base CX0 2 C_Grammar "heads" ["self"] (spF K 1 (C_gHeads C_Grammar))) (o_fits_rule : OkF P w K mg base CX0 2 "fits_rule" ["rules", "thing"] (spP K 2 C_fits)) (o_due_parts : OkF P w K mg base CX0 2 "due_parts" ["rules", "thing"] (spF K 2 C_due)) : OkF P w K mg base CX0 3 "is_tree" ["grammar", "thing"] (spP K 2 (C_isTree C_Grammar)) := by
  refine ok_pure d sc_is_tree rfl fun f cdv A outer s H E hr ds r hC B hB => ?_
  obtain ⟨st, rs, t, rfl, rfl, hz⟩ := hC
  refine w_set (i := 2) sc_is_tree.nd rfl (.inl rfl) (PF3.p (pf_meth0 (ds := rulesD rs) o_Grammar_rules c_Grammar.c (hr.mono (by decide)) (p_var (i := 0) rfl (.inl rfl) rfl) nm_Grammar_rules ?_)) ?_
  · exact ⟨st, rs, rfl, rfl⟩
  refine w_set (i := 3) sc_is_tree.nd rfl (.inl rfl) (PF3.p (pf_meth0 (ds := strsD (firsts rs)) o_Grammar_heads c_Grammar.c (hr.mono (by decide)) (p_var (i := 0) rfl (.inl rfl) rfl) nm_Grammar_heads ?_)) ?_
  · exact ⟨st, rs, rfl, rfl⟩
  refine w_if (t_not (t_val (p_call (d := .bl (fits rs t)) o_fits_rule (hr.mono (by decide)) rfl (pl_cons (p_var (i := 2) rfl (.inl rfl) rfl) (pl_cons (p_var (i := 1) rfl (.inl rfl) rfl) pl_nil)) ?_))) ?_ ?_
  · exact ⟨rs, t, rfl, rfl⟩
  · intro hk
    have hk : (!fits rs t) = true := hk
    have : topT rs t = false := by
      cases t with
      | lf w' => rfl
      | one r' => rfl
      | nd r' ps =>
        cases q : ruleAt rs r' with
        | none => exact topT_no q
        | some p => rw [fits_nd q] at hk; rw [topT_nd q]; simp at hk; simp [hk]
    rw [this]
    refine w_ret p_bl ?_
    rfl
  · intro hk
    have hk : (!fits rs t) = false := hk
    refine w_nil ?_
    cases t with
    | lf w' => cases hk
    | one r' => cases hk
    | nd r' ps =>
      cases q : ruleAt rs r' with
      | none => rw [fits_no q] at hk; cases hk
      | some p =>
        rw [fits_nd q, Bool.not_eq_false'] at hk
        rw [szT] at hz
        refine w_own (i := 4) sc_is_tree.nd rfl (.inl rfl) (pf_call (gs := (p.2.1.zip ps).map dueD) o_due_parts (hr.mono (by decide)) rfl (pl_cons (p_var (i := 2) rfl (.inl rfl) rfl) (pl_cons (p_var (i := 1) rfl (.inl rfl) rfl) pl_nil)) ⟨rs, r', ps, p, rfl, due_zip.symm, q⟩) fun l => ?_
        rw [topT_nd q, hk, Bool.true_and]
        refine w_whileV PassesOwn.never (fun m Γ Ω => ∃ (us : List (Str × Th)) (a : Option D), Γ = [some (gD C_Grammar st rs), some (thD (.nd r' ps)), some (.lst (rulesD rs)), some (.lst (strsD (firsts rs))), some (.raw (.ref l)), a] ∧ Ω = [(l, oLst K (us.map dueD))] ∧ allT rs us = allT rs (p.2.1.zip ps) ∧ szP us ≤ 3000 ∧ m = szP us) (n := szP (p.2.1.zip ps)) ⟨_, none, rfl, rfl, rfl, ?_, rfl⟩ ?_
        · have := szP_zip (ys := p.2.1) (ts := ps)
          omega
        rintro m Γ Ω ⟨us, a, rfl, rfl, e, hs, rfl⟩
        refine vt_ownL (i := 4) rfl (.inl rfl) rfl (List.mem_singleton.mpr rfl) ⟨fun hk => ?_, fun hk => ?_⟩
        · have ne : us ≠ [] := by
            rintro rfl
            simp at hk
          obtain ⟨vs, v, rfl⟩ : ∃ vs v, us = vs ++ [v] := ⟨us.dropLast, us.getLast ne, (List.dropLast_concat_getLast ne).symm⟩
          obtain ⟨y, u⟩ := v
          rw [szP_app] at hs ⊢
          rw [allT_app, allT_one] at e
          have e1 : szP [(y, u)] = szT u := by unfold szP; simp
          have lv := szP_len (us := vs)
          rw [List.map_append]
          refine w_setV (i := 5) sc_is_tree.nd rfl (.inl rfl) (v_popL (i := 4) (d := dueD (y, u)) rfl (.inl rfl) rfl ?_)
          have dn : ∀ {b : Bool}, allT rs (p.2.1.zip ps) = b → D.bl (allT rs (p.2.1.zip ps)) = D.bl b := fun h => by rw [h]
          refine w_if (t_cmp (c_in hr.units (p_ixT (p_var (i := 5) rfl (.inl rfl) rfl) p_int rfl) (p_var (i := 3) rfl (.inl rfl) rfl) (.inl rfl) ?_)) ?_ ?_
          · exact strs_kin
          · intro hk2
            rw [in_strs] at hk2
            have hy : y ∈ firsts rs := of_decide_eq_true hk2
            cases u with
            | lf w' =>
              have e3 : isTr rs (.lf w') y = false := by
                rw [isTr, decide_eq_true (mem_firsts.mp hy)]
                rfl
              refine w_if (PW3.t (tw_or (k' := true) (t_not (t_val (p_call (d := .bl false) o_fits_rule (hr.mono (by decide)) rfl (pl_cons (p_var (i := 2) rfl (.inl rfl) rfl) (pl_cons (p_ixT (p_var (i := 5) rfl (.inl rfl) rfl) p_int rfl) pl_nil)) ⟨rs, .lf w', rfl, rfl⟩))) (fun h => absurd h (by decide)))) (fun _ => ?_) (fun h => absurd h (by decide))
              refine w_ret p_bl ?_
              exact (dn (by rw [← e, e3, Bool.and_false])).symm
            | one r2 =>
              have e3 : isTr rs (.one r2) y = false := by rw [isTr]
              refine w_if (PW3.t (tw_or (k' := true) (t_not (t_val (p_call (d := .bl false) o_fits_rule (hr.mono (by decide)) rfl (pl_cons (p_var (i := 2) rfl (.inl rfl) rfl) (pl_cons (p_ixT (p_var (i := 5) rfl (.inl rfl) rfl) p_int rfl) pl_nil)) ⟨rs, .one r2, rfl, rfl⟩))) (fun h => absurd h (by decide)))) (fun _ => ?_) (fun h => absurd h (by decide))
              refine w_ret p_bl ?_
              exact (dn (by rw [← e, e3, Bool.and_false])).symm
            | nd r2 ps2 =>
              have ft : fits rs (.nd r2 ps2) = true → ∃ q2, ruleAt rs r2 = some q2 := fun h => by
                cases z : ruleAt rs r2 with
                | none => rw [fits_no z] at h; cases h
                | some q2 => exact ⟨q2, rfl⟩
              cases hf : fits rs (.nd r2 ps2) with
              | false =>
                have e3 : isTr rs (.nd r2 ps2) y = false := by
                  cases z : ruleAt rs r2 with
                  | none => exact isTr_no z
                  | some q2 => rw [fits_nd z] at hf; rw [isTr_nd z, hf]; simp
                refine w_if (PW3.t (tw_or (k' := true) (t_not (t_val (p_call (d := .bl false) o_fits_rule (hr.mono (by decide)) rfl (pl_cons (p_var (i := 2) rfl (.inl rfl) rfl) (pl_cons (p_ixT (p_var (i := 5) rfl (.inl rfl) rfl) p_int rfl) pl_nil)) ⟨rs, .nd r2 ps2, rfl, by rw [hf]⟩))) (fun h => absurd h (by decide)))) (fun _ => ?_) (fun h => absurd h (by decide))
                refine w_ret p_bl ?_
                exact (dn (by rw [← e, e3, Bool.and_false])).symm
              | true =>
                obtain ⟨q2, z⟩ := ft hf
                have lz : ps2.length = q2.2.1.length := by rw [fits_nd z] at hf; exact of_decide_eq_true hf
                refine w_if (PW3.t (tw_or (t_not (t_val (p_call (d := .bl true) o_fits_rule (hr.mono (by decide)) rfl (pl_cons (p_var (i := 2) rfl (.inl rfl) rfl) (pl_cons (p_ixT (p_var (i := 5) rfl (.inl rfl) rfl) p_int rfl) pl_nil)) ⟨rs, .nd r2 ps2, rfl, by rw [hf]⟩))) (fun h => tw_or1 (t_cmp (c_neS (p_ixT (p_ixL (d := ruleD q2) (p_var (i := 2) rfl (.inl rfl) rfl) (p_ixT (ds := [.int r2, .tup (thsD ps2)]) (p_eq (p_ixT (p_var (i := 5) rfl (.inl rfl) rfl) p_int rfl) (by rw [thD])) p_int rfl) (rule_at z)) p_int rfl) (p_ixT (p_var (i := 5) rfl (.inl rfl) rfl) p_int rfl)))))) (fun h3 => ?_) (fun h3 => ?_)
                · have h3 : (!decide (q2.1 = y)) = true := h3
                  have e3 : isTr rs (.nd r2 ps2) y = false := by
                    rw [Bool.not_eq_true'] at h3
                    rw [isTr_nd z, h3, Bool.false_and]
                  refine w_ret p_bl ?_
                  exact (dn (by rw [← e, e3, Bool.and_false])).symm
                · have h3 : (!decide (q2.1 = y)) = false := h3
                  rw [Bool.not_eq_false'] at h3
                  have e3 : isTr rs (.nd r2 ps2) y = allT rs (q2.2.1.zip ps2) := by
                    rw [isTr_nd z, h3, decide_eq_true lz, Bool.true_and, Bool.true_and]
                  rw [szT] at e1
                  have sz := szP_zip (ys := q2.2.1) (ts := ps2)
                  have sl := szP_len (us := q2.2.1.zip ps2)
                  refine w_nil ?_
                  refine w_extend (i := 4) rfl (.inl rfl) rfl (pf_call (gs := (q2.2.1.zip ps2).map dueD) o_due_parts (hr.mono (by decide)) rfl (pl_cons (p_var (i := 2) rfl (.inl rfl) rfl) (pl_cons (p_ixT (p_var (i := 5) rfl (.inl rfl) rfl) p_int rfl) pl_nil)) ⟨rs, r2, ps2, q2, rfl, due_zip.symm, z⟩) (by rw [List.length_map, List.length_map, sizeLine_eq]; omega) ?_
                  rw [← List.map_append]
                  refine w_nil (w_nil ⟨szP (vs ++ q2.2.1.zip ps2), ?_, vs ++ q2.2.1.zip ps2, _, rfl, rfl, ?_, ?_, rfl⟩)
                  · rw [szP_app]; omega
                  · rw [allT_app, ← e3, e]
                  · rw [szP_app]; omega
          · intro hk2
            rw [in_strs] at hk2
            have hy : y ∉ rs.map (·.1) := fun h => of_decide_eq_false hk2 (mem_firsts.mpr h)
            cases u with
            | one r2 =>
              have e3 : isTr rs (.one r2) y = false := by rw [isTr]
              refine w_if (t_cmp (c_neTS hr.units (ds := [.int r2]) (p_eq (p_ixT (p_var (i := 5) rfl (.inl rfl) rfl) p_int rfl) (by rw [thD])) (p_ixT (p_var (i := 5) rfl (.inl rfl) rfl) p_int rfl))) (fun _ => ?_) (fun h => absurd h (by decide))
              refine w_ret p_bl ?_
              exact (dn (by rw [← e, e3, Bool.and_false])).symm
            | nd r2 ps2 =>
              have e3 : isTr rs (.nd r2 ps2) y = false := by
                cases z : ruleAt rs r2 with
                | none => exact isTr_no z
                | some q2 =>
                  have : q2.1 ≠ y := fun h => by
                    obtain ⟨k, _, hk, _⟩ := ruleAt_some z
                    exact hy (List.mem_map.mpr ⟨q2, List.mem_of_getElem? hk, h⟩)
                  rw [isTr_nd z, decide_eq_false this, Bool.false_and]
              refine w_if (t_cmp (c_neTS hr.units (ds := [.int r2, .tup (thsD ps2)]) (p_eq (p_ixT (p_var (i := 5) rfl (.inl rfl) rfl) p_int rfl) (by rw [thD])) (p_ixT (p_var (i := 5) rfl (.inl rfl) rfl) p_int rfl))) (fun _ => ?_) (fun h => absurd h (by decide))
              refine w_ret p_bl ?_
              exact (dn (by rw [← e, e3, Bool.and_false])).symm
            | lf w' =>
              have e3 : isTr rs (.lf w') y = decide (w' = y) := by
                rw [isTr, decide_eq_false hy]
                rfl
              rw [szT] at e1
              refine w_if (t_cmp (c_neS (i := w') (p_eq (p_ixT (p_var (i := 5) rfl (.inl rfl) rfl) p_int rfl) (by rw [thD])) (p_ixT (p_var (i := 5) rfl (.inl rfl) rfl) p_int rfl))) (fun h3 => ?_) (fun h3 => ?_)
              · rw [Bool.not_eq_true'] at h3
                refine w_ret p_bl ?_
                exact (dn (by rw [← e, e3, h3, Bool.and_false])).symm
              · rw [Bool.not_eq_false'] at h3
                exact w_nil (w_nil (w_nil ⟨szP vs, by omega, vs, _, rfl, rfl, by rw [← e, e3, h3, Bool.and_true], by omega, rfl⟩))
        · have ne : us = [] := by
            cases us with
            | nil => rfl
            | cons u us => simp at hk
          subst ne
          refine w_ret p_bl ?_
          show D.bl true = D.bl (allT rs (p.2.1.zip ps))
          rw [← e]
          rfl
end
end Law
set_option Elab.async false
set_option linter.all false
set_option maxRecDepth 100000
set_option maxHeartbeats 4000000
namespace Law
open PySem L2 L3
section
variable {P : Program} {w : World} {K : PySem.W.Frag} {mg : Str → Option Value} {base : Heap} {C_Grammar : Addr}
theorem ok_law_cell_at (z : Zs mg) (d : DefK K mg "_law_cell_at" s_law_cell_at ["_law_script", "_law_k"])  : OkF P w K mg base CX0 2 "_law_cell_at" ["_law_script", "_law_k"] (spP K 2 C_cell) := by
  refine ok_pure d sc_law_cell_at rfl fun f cdv A outer s H E hr ds r hC B hB => ?_
  obtain ⟨ns, k, rfl, rfl⟩ := hC
  refine w_if (t_cmp (c_lt (p_var (i := 1) rfl (.inl rfl) rfl) (p_lenI z.len rfl (p_var (i := 0) rfl (.inl rfl) rfl)))) ?_ ?_
  · intro hk
    have hk := of_decide_eq_true hk
    refine w_ret (p_ixI (n := ns.getD k 0) (p_var (i := 0) rfl (.inl rfl) rfl) (p_var (i := 1) rfl (.inl rfl) rfl) ?_) ?_
    · have hk' : k < ns.length := by omega
      show atI ns (k : Int) = some (ns.getD k 0)
      unfold atI ixN
      rw [if_pos (by omega), if_pos (by omega)]
      show ns[((k : Int)).toNat]? = _
      rw [Int.toNat_natCast, List.getD_eq_getElem?_getD, List.getElem?_eq_getElem hk']
      rfl
    · rfl
  · intro hk
    have hk := of_decide_eq_false hk
    refine w_nil ?_
    refine w_ret p_int ?_
    show D.int 0 = D.int (ns.getD k 0)
    rw [List.getD_eq_getElem?_getD, List.getElem?_eq_none_iff.mpr (by omega)]
    rfl
theorem ok_law_whole (z : Zs mg) (d : DefK K mg "_law_whole" s_law_whole ["_law_found"])  : OkF P w K mg base CX0 2 "_law_whole" ["_law_found"] (spP K 1 C_whole) := by
  refine ok_pure d sc_law_whole rfl fun f cdv A outer s H E hr ds r hC B hB => ?_
  obtain ⟨i, rfl, rfl⟩ := hC
  refine w_ret (p_and (p_isin (k := true) z.isinstance rfl (p_var (i := 0) rfl (.inl rfl) rfl) (p_bltn rfl z.int bt_int (v := .ty "int") rfl) rfl (by rfl) (fun z => nomatch z)) fun _ => (p_one (p_not (p_isin (k := false) z.isinstance rfl (p_var (i := 0) rfl (.inl rfl) rfl) (p_bltn rfl z.bool bt_bool (v := .ty "bool") rfl) rfl (by rfl) (fun z => nomatch z))))) ?_
  rfl
theorem ok_law_is_tree (z : Zs mg) (d : DefK K mg "_law_is_tree" s_law_is_tree ["_law_rules_here", "_law_symbol", "_law_thing"]) (o_law_whole : OkF P w K mg base CX0 2 "_law_whole" ["_law_found"] (spP K 1 C_whole)) : ∀ n, OkF P w K mg base CX0 (n + 3) "_law_is_tree" ["_law_rules_here", "_law_symbol", "_law_thing"] (spP K 3 (C_lawIsT n)) := by
  intro n
  induction n using Nat.strongRecOn with
  | ind n ih =>
  refine ok_pure d sc_law_is_tree rfl fun f cdv A outer s H E hr ds r hC B hB => ?_
  obtain ⟨rs, y, t, rfl, rfl, hd, hl⟩ := hC
  refine w_if (t_cmp (c_notIn hr.units (p_var (i := 1) rfl (.inl rfl) rfl) (PF3.p (pf_comp (SX := defScope s_law_is_tree) (XN := ["_law_rules_here", "_law_symbol", "_law_thing", "_law_body", "_law_one", "_law_part"]) (N := ["_law_rule"]) (nt := 1) (caps := []) (pre := (fun i => strsD ((rs.take i).map (·.1)))) ⟨rfl, by decide +kernel, by decide +kernel, by decide +kernel, rfl, by decide +kernel⟩ (i_list (p_var (i := 0) rfl (.inl rfl) rfl)) ?_ ?_ ?_)) (.inl rfl) ?_)) ?_ ?_
  · intro i _
    rw [strsD_len, List.length_map, sizeLine_eq]
    have := List.length_take_le' i rs
    omega
  · rfl
  · intro c i d hd'
    unfold rulesD at hd'
    rw [List.getElem?_map] at hd'
    obtain ⟨q, hq, rfl⟩ := Option.map_eq_some_iff.mp hd'
    refine ⟨_, (g_name (i := 0) (show List.Nodup (α := Str) ["_law_rule"] by decide +kernel) rfl (.inl rfl)), (Sub.set rfl), .inl ⟨.str q.1, ts_nil, (p_ixT (p_var (i := 0) rfl (.inl rfl) rfl) p_int rfl), ?_⟩⟩
    show strsD ((rs.take (i + 1)).map (·.1)) = strsD ((rs.take i).map (·.1)) ++ [D.str q.1]
    rw [take_get hq, List.map_append]
    unfold strsD
    rw [List.map_append]
    rfl
  · rw [rulesD_len, List.take_length]
    exact strs_kin
  · intro hk
    rw [rulesD_len, List.take_length, in_strs, Bool.not_eq_true'] at hk
    have hy : y ∉ rs.map (·.1) := of_decide_eq_false hk
    cases t with
    | lf w' =>
      rw [thD]
      refine w_ret (p_and (p_isin (k := true) z.isinstance rfl (p_var (i := 2) rfl (.inl rfl) rfl) (p_bltn rfl z.str bt_str (v := .ty "str") rfl) rfl (by rfl) (fun z => nomatch z)) fun _ => p_one (p_cmp (c_eqS (p_var (i := 2) rfl (.inl rfl) rfl) (p_var (i := 1) rfl (.inl rfl) rfl)))) ?_
      show D.bl _ = D.bl _
      rw [isTr, hk]
      rfl
    | one r' =>
      rw [thD]
      refine w_ret (p_and (k' := false) (p_isin (k := false) z.isinstance rfl (p_var (i := 2) rfl (.inl rfl) rfl) (p_bltn rfl z.str bt_str (v := .ty "str") rfl) rfl (by rfl) (fun z => nomatch z)) fun h => nomatch h) ?_
      show D.bl _ = D.bl _
      rw [isTr]
      rfl
    | nd r' ps =>
      rw [thD]
      refine w_ret (p_and (k' := false) (p_isin (k := false) z.isinstance rfl (p_var (i := 2) rfl (.inl rfl) rfl) (p_bltn rfl z.str bt_str (v := .ty "str") rfl) rfl (by rfl) (fun z => nomatch z)) fun h => nomatch h) ?_
      show D.bl _ = D.bl _
      congr 1
      cases q : ruleAt rs r' with
      | none => exact (isTr_no q).symm
      | some q2 =>
        have : q2.1 ≠ y := fun h => by
          obtain ⟨k, _, hk, _⟩ := ruleAt_some q
          exact hy (List.mem_map.mpr ⟨q2, List.mem_of_getElem? hk, h⟩)
        rw [isTr_nd q, decide_eq_false this, Bool.false_and]
        rfl
  · intro hk
    rw [rulesD_len, List.take_length, in_strs, Bool.not_eq_false'] at hk
    have hy : y ∈ rs.map (·.1) := of_decide_eq_true hk
    refine w_nil ?_
    cases t with
    | lf w' =>
      have e3 : isTr rs (.lf w') y = false := by rw [isTr, hk]; rfl
      rw [thD, e3]
      refine w_if (PW3.t (tw_or (k' := true) (t_not (t_val (p_isin (k := false) z.isinstance rfl (p_var (i := 2) rfl (.inl rfl) rfl) (p_bltn rfl z.tuple bt_tuple (v := .ty "tuple") rfl) rfl (by rfl) (fun z => nomatch z)))) (fun h => absurd h (by decide)))) (fun _ => ?_) (fun h => absurd h (by decide))
      refine w_ret p_bl ?_
      rfl
    | one r' =>
      have e3 : isTr rs (.one r') y = false := by rw [isTr]
      rw [thD, e3]
      refine w_if (PW3.t (tw_or (t_not (t_val (p_isin (k := true) z.isinstance rfl (p_var (i := 2) rfl (.inl rfl) rfl) (p_bltn rfl z.tuple bt_tuple (v := .ty "tuple") rfl) rfl (by rfl) (fun z => nomatch z)))) (fun _ => tw_or (k' := true) (t_cmp (c_neI (p_lenT z.len rfl (p_var (i := 2) rfl (.inl rfl) rfl)) p_int)) (fun h => absurd (show (!decide ((1 : Int) = 2)) = false from h) (by decide))))) (fun _ => ?_) (fun h => absurd (show (!true || (!decide ((1 : Int) = 2) || true)) = false from h) (by decide))
      refine w_ret p_bl ?_
      rfl
    | nd r' ps =>
      rw [thD]
      refine w_if (PW3.t (tw_or (t_not (t_val (p_isin (k := true) z.isinstance rfl (p_var (i := 2) rfl (.inl rfl) rfl) (p_bltn rfl z.tuple bt_tuple (v := .ty "tuple") rfl) rfl (by rfl) (fun z => nomatch z)))) (fun _ => tw_or (t_cmp (c_neI (p_lenT z.len rfl (p_var (i := 2) rfl (.inl rfl) rfl)) p_int)) (fun _ => tw_or (t_not (t_val (p_call (d := .bl true) o_law_whole (hr.mono (by omega)) rfl (pl_cons (p_ixT (p_var (i := 2) rfl (.inl rfl) rfl) p_int rfl) pl_nil) ⟨r', rfl, rfl⟩))) (fun _ => tw_or1 (t_not (t_val (p_isin (k := true) z.isinstance rfl (p_ixT (p_var (i := 2) rfl (.inl rfl) rfl) p_int rfl) (p_bltn rfl z.tuple bt_tuple (v := .ty "tuple") rfl) rfl (by rfl) (fun z => nomatch z)))))))))
        (fun h => absurd (show (!true || (!decide ((2 : Int) = 2) || (!true || !true))) = true from h) (by decide)) (fun _ => w_nil ?_)
      cases q : ruleAt rs r' with
      | none =>
        have hn := ruleAt_none q
        rw [isTr_no q]
        refine w_if (PW3.t (tw_or (k' := true) (t_not (t_chainI p_int (p_ixT (p_var (i := 2) rfl (.inl rfl) rfl) p_int rfl) (p_lenL z.len rfl (p_var (i := 0) rfl (.inl rfl) rfl)))) (fun h => ?_))) (fun _ => ?_) (fun h => ?_)
        · rw [rulesD_len] at h; simp at h; omega
        · refine w_ret p_bl ?_
          rfl
        · rw [Bool.or_true] at h; cases h
      | some q2 =>
        obtain ⟨k, hk1, hk2, hk3⟩ := ruleAt_some q
        rw [isTr_nd q]
        refine w_if (PW3.t (tw_or (t_not (t_chainI p_int (p_ixT (p_var (i := 2) rfl (.inl rfl) rfl) p_int rfl) (p_lenL z.len rfl (p_var (i := 0) rfl (.inl rfl) rfl)))) (fun _ => tw_or1 (t_cmp (c_neS (p_ixT (p_ixL (d := ruleD q2) (p_var (i := 0) rfl (.inl rfl) rfl) (p_ixT (p_var (i := 2) rfl (.inl rfl) rfl) p_int rfl) (rule_at q)) p_int rfl) (p_var (i := 1) rfl (.inl rfl) rfl)))))) (fun h => ?_) (fun h => ?_)
        · have e4 : decide (q2.1 = y) = false := by
            rw [rulesD_len] at h
            have e5 : (decide ((0 : Int) ≤ r') && decide (r' < (rs.length : Int))) = true := by rw [hk1]; simp; omega
            rw [e5] at h
            simpa using h
          rw [e4]
          refine w_ret p_bl ?_
          rfl
        · have e4 : decide (q2.1 = y) = true := by
            rw [rulesD_len] at h
            have e5 : (decide ((0 : Int) ≤ r') && decide (r' < (rs.length : Int))) = true := by rw [hk1]; simp; omega
            rw [e5] at h
            simpa using h
          rw [e4, Bool.true_and]
          refine w_nil ?_
          refine w_set (i := 3) sc_law_is_tree.nd rfl (.inl rfl) (p_ixT (p_ixL (d := ruleD q2) (p_var (i := 0) rfl (.inl rfl) rfl) (p_ixT (p_var (i := 2) rfl (.inl rfl) rfl) p_int rfl) ?_) p_int rfl) ?_
          · exact rule_at q
          refine w_if (t_cmp (c_neI (p_lenT (ds := q2.2.1.map D.str) z.len rfl (p_var (i := 3) rfl (.inl rfl) rfl)) (p_lenT z.len rfl (p_ixT (p_var (i := 2) rfl (.inl rfl) rfl) p_int rfl)))) (fun h => ?_) (fun h => ?_)
          · rw [List.length_map, thsD_len] at h
            have e6 : decide (ps.length = q2.2.1.length) = false := by simp at h ⊢; omega
            rw [e6]
            refine w_ret p_bl ?_
            rfl
          · rw [List.length_map, thsD_len] at h
            have e6 : ps.length = q2.2.1.length := by simp at h; omega
            rw [decide_eq_true e6, Bool.true_and]
            refine w_nil ?_
            rw [dpH] at hd
            refine w_for PassesOwn.never rfl (i_zipT z.zip rfl (ds := q2.2.1.map D.str) (p_var (i := 3) rfl (.inl rfl) rfl) (p_ixT (p_var (i := 2) rfl (.inl rfl) rfl) p_int rfl)) (fun i Γ _ => ∃ a b, Γ = [some (.lst (rulesD rs)), some (.str y), some (.tup [.int r', .tup (thsD ps)]), some (bodyD q2.2.1), a, b] ∧ allT rs ((q2.2.1.zip ps).take i) = true) ⟨none, none, rfl, rfl⟩ ?_ ?_
            · rintro i dd Γ Ω hdd ⟨a, b, rfl, ha⟩
              rw [due_zip, List.getElem?_map] at hdd
              obtain ⟨⟨x, u⟩, hxu, rfl⟩ := Option.map_eq_some_iff.mp hdd
              have hu : u ∈ ps := (List.of_mem_zip (List.mem_of_getElem? hxu)).2
              have hdu := dpHL_mem hu
              obtain ⟨m, rfl⟩ : ∃ m, n = m + 1 := ⟨n - 1, by omega⟩
              have ih' := ih m (Nat.lt_succ_self m)
              refine ⟨_, (g_tup rfl (gl_cons (g_name (i := 4) sc_law_is_tree.nd rfl (.inl rfl)) (gl_cons (g_name (i := 5) sc_law_is_tree.nd rfl (.inl rfl)) gl_nil))), ?_⟩
              refine w_if (t_not (t_val (p_call (d := .bl (isTr rs u x)) ih' (hr.mono (by omega)) rfl (pl_cons (p_var (i := 0) rfl (.inl rfl) rfl) (pl_cons (p_var (i := 4) rfl (.inl rfl) rfl) (pl_cons (p_var (i := 5) rfl (.inl rfl) rfl) pl_nil))) ⟨rs, x, u, rfl, rfl, by omega, hl⟩))) (fun h => ?_) (fun h => ?_)
              · rw [Bool.not_eq_true'] at h
                have e7 : allT rs (q2.2.1.zip ps) = false := by
                  unfold allT
                  rw [List.all_eq_false]
                  exact ⟨(x, u), List.mem_of_getElem? hxu, by rw [h]; simp⟩
                rw [e7]
                refine w_ret p_bl ?_
                rfl
              · rw [Bool.not_eq_false'] at h
                refine w_nil (w_nil ⟨_, _, rfl, ?_⟩)
                rw [take_get hxu, allT_app, ha, allT_one, h]
                rfl
            · rintro Γ Ω ⟨a, b, rfl, ha⟩
              rw [due_zip, List.length_map, List.take_length] at ha
              rw [ha]
              refine w_ret p_bl ?_
              rfl
end
end Law
set_option Elab.async false
set_option linter.all false
set_option maxRecDepth 100000
set_option maxHeartbeats 4000000
namespace Law
open PySem L2 L3
section
variable {P : Program} {w : World} {K : PySem.W.Frag} {mg : Str → Option Value} {base : Heap} {C_Grammar : Addr}
theorem ok_law_spoilt (ht : P.given.tree = none) (z : Zs mg) (d : DefK K mg "_law_spoilt" s_law_spoilt ["_law_rules_here", "_law_tree_here", "_law_cell"]) {rs : List Rule} (hb : ∀ q ∈ rs, 1 ≤ q.2.1.length) (hl : rs.length ≤ 100) : ∀ n (t : Tr) (c : Int), dpt t ≤ n → isNd t = true → (∃ y, isTr rs (toTh t) y = true) → szT (toTh t) ≤ 1000 →
    OkF P w K mg base CX0 (n + 34) "_law_spoilt" ["_law_rules_here", "_law_tree_here", "_law_cell"] (spR K 3 (fun ds => ds = [.lst (rulesD rs), trD t, .int c]) (fun _ d => ∃ t' : Th, d = thD t' ∧ dpH t' ≤ dpt t + 1 ∧ szT t' ≤ 2 * szT (toTh t) + 2)) := by
  intro n
  induction n using Nat.strongRecOn with
  | ind n ih =>
  intro t c hd hn ⟨y, hy⟩ hz
  refine ok_rel d sc_law_spoilt rfl fun f cdv A outer s H E hr ds hC B hB => ?_
  have py : Pyl (cx0 P w K mg base ["_law_rules_here", "_law_tree_here", "_law_cell", "_law_many", "_law_way", "_law_parts", "_law_inner"] "_law_spoilt" s_law_spoilt f cdv A outer s H E) := (pyl_cx ht rfl rfl hr (by omega)).nox
  subst hC
  cases t with
  | lf w' => cases hn
  | nd r' ps =>
    rw [dpt] at hd ⊢
    rw [toTh, szT] at hz ⊢
    obtain ⟨p, hp, lp, hpl⟩ : ∃ p, rs[r']? = some p ∧ (toThs ps).length = p.2.1.length ∧ isTrL rs (toThs ps) p.2.1 = true := by
      rw [toTh, isTr, ruleAt_nat] at hy
      cases q : rs[r']? with
      | none => rw [q] at hy; cases hy
      | some p =>
        rw [q] at hy
        have h : (decide (p.1 = y) && (decide ((toThs ps).length = p.2.1.length) && isTrL rs (toThs ps) p.2.1)) = true := hy
        rw [Bool.and_eq_true, Bool.and_eq_true] at h
        exact ⟨p, rfl, of_decide_eq_true h.2.1, h.2.2⟩
    have hp1 := hb p (List.mem_of_getElem? hp)
    have hr1 : r' < rs.length := (List.getElem?_eq_some_iff.mp hp).1
    have ne : ps ≠ [] := by
      rintro rfl
      rw [toThs] at lp
      simp at lp
      omega
    obtain ⟨qs, v, rfl⟩ : ∃ qs v, ps = qs ++ [v] := ⟨ps.dropLast, ps.getLast ne, (List.dropLast_concat_getLast ne).symm⟩
    rw [toThs_app, toThs, toThs] at lp hpl
    rw [toThs_app, toThs, toThs, szTL_app, szTL, szTL] at hz ⊢
    rw [← dpHL_to, toThs_app, toThs, toThs, dpHL_app, dpHL, dpHL, Nat.max_zero] at hd ⊢
    have e1 : trD (.nd r' (qs ++ [v])) = .tup [.int (r' : Int), .tup (thsD (toThs qs) ++ [trD v])] := by
      rw [trD, trsD_app, trsD, trsD, ← thsD_to]
    have ev : thD (toTh v) = trD v := thD_to
    rw [e1]
    have hle : (thsD (toThs qs)).length + 2 ≤ sizeLine := by
      rw [thsD_len, sizeLine_eq]
      have := szTL_len (ts := toThs qs)
      omega
    refine w_set (i := 3) sc_law_spoilt.nd rfl (.inl rfl) (p_lenL z.len rfl (p_var (i := 0) rfl (.inl rfl) rfl)) ?_
    refine w_set (i := 4) sc_law_spoilt.nd rfl (.inl rfl) (p_mod (p_var (i := 2) rfl (.inl rfl) rfl) p_int ?_) ?_
    · decide
    refine w_set (i := 5) sc_law_spoilt.nd rfl (.inl rfl) (p_ixT (p_var (i := 1) rfl (.inl rfl) rfl) p_int rfl) ?_
    refine w_set (i := 6) sc_law_spoilt.nd rfl (.inl rfl) (p_ixT (d := trD v) (p_var (i := 5) rfl (.inl rfl) rfl) (p_neg p_int) ?_) ?_
    · exact at_last
    have c2 := emod_in (a := c / 7) (show (0 : Int) < 2 by decide)
    refine w_if (PW3.t (tw_and (t_not (t_val (p_isStrT z.isinstance rfl (p_var (i := 6) rfl (.inl rfl) rfl) (p_bltn rfl z.str bt_str (v := .ty "str") rfl)))) (fun _ => tw_and1 (t_cmp (c_eqI (p_mod (p_fdivP py (p_var (i := 2) rfl (.inl rfl) rfl) p_int (by decide)) p_int (by decide)) p_int))))) (fun hk => ?_) (fun _ => w_nil ?_)
    · have hv : isNd v = true := by
        cases z : isNd v with
        | true => rfl
        | false => rw [z] at hk; cases hk
      obtain ⟨m, rfl⟩ : ∃ m, n = m + 1 := ⟨n - 1, by omega⟩
      have iv := ih m (Nat.lt_succ_self m) v (c / 14) (by rw [← dpH_to]; omega) hv (isTrL_last lp hpl) (by omega)
      refine w_retV (v_tup (vl_cons (v_pure (p_ixT (p_var (i := 1) rfl (.inl rfl) rfl) p_int rfl) (vl_cons (v_op op_catT3 (v_pure (p_eq (p_sliceTA (p_var (i := 5) rfl (.inl rfl) rfl) o_none (o_some (p_neg p_int))) (congrArg D.tup cut_init)) (v_tup (vl_cons (v_callR iv (hr.mono (by omega)) rfl (pl_cons (p_var (i := 0) rfl (.inl rfl) rfl) (pl_cons (p_var (i := 6) rfl (.inl rfl) rfl) (pl_cons (p_fdivP py (p_var (i := 2) rfl (.inl rfl) rfl) p_int (by decide)) pl_nil))) rfl fun d hd' => ?_)))))))))
      obtain ⟨t', rfl, h1, h2⟩ := hd'
      refine vl_pure pl_nil ⟨by (simp only [List.length_cons, List.length_nil]; decide), _, catT_read (by rw [List.length_singleton]; omega), vl_pure pl_nil ⟨by (simp only [List.length_cons, List.length_nil]; decide), .nd r' (toThs qs ++ [t']), ?_, ?_, ?_⟩⟩
      · rw [thD, thsD_app, thsD, thsD]
      · rw [dpH, dpHL_app, dpHL, dpHL]
        rw [← dpH_to] at h1
        omega
      · rw [szT, szTL_app, szTL, szTL]
        omega
    refine w_if (t_cmp (c_eqI (p_var (i := 4) rfl (.inl rfl) rfl) p_int)) (fun _ => ?_) (fun _ => w_nil ?_)
    · refine w_ret (p_tup (pl_cons (p_mod (p_add (p_ixT (p_var (i := 1) rfl (.inl rfl) rfl) p_int rfl) p_int) (p_var (i := 3) rfl (.inl rfl) rfl) (by rw [rulesD_len]; omega)) (pl_cons (p_var (i := 5) rfl (.inl rfl) rfl) pl_nil))) ⟨.nd (((r' : Int) + 1) % ((rulesD rs).length : Nat)) (toThs qs ++ [toTh v]), ?_, ?_, ?_⟩
      · rw [thD, thsD_app, thsD, thsD, ev]
      · rw [dpH, dpHL_app, dpHL, dpHL]; omega
      · rw [szT, szTL_app, szTL, szTL]; omega
    refine w_if (t_cmp (c_eqI (p_var (i := 4) rfl (.inl rfl) rfl) p_int)) (fun _ => ?_) (fun _ => w_nil ?_)
    · refine w_ret (p_tup (pl_cons (p_ixT (p_var (i := 1) rfl (.inl rfl) rfl) p_int rfl) (pl_cons (p_eq (p_sliceTA (p_var (i := 5) rfl (.inl rfl) rfl) o_none (o_some (p_neg p_int))) (congrArg D.tup cut_init)) pl_nil))) ⟨.nd r' (toThs qs), ?_, ?_, ?_⟩
      · rw [thD]
      · rw [dpH]; omega
      · rw [szT]; omega
    refine w_if (t_cmp (c_eqI (p_var (i := 4) rfl (.inl rfl) rfl) p_int)) (fun _ => ?_) (fun _ => w_nil ?_)
    · refine w_ret (p_tup (pl_cons (p_ixT (p_var (i := 1) rfl (.inl rfl) rfl) p_int rfl) (pl_cons (p_catT (p_var (i := 5) rfl (.inl rfl) rfl) (p_eq (p_sliceTA (p_var (i := 5) rfl (.inl rfl) rfl) (o_some (p_neg p_int)) o_none) (congrArg D.tup cut_last)) (by rw [List.length_append, List.length_singleton]; exact hle)) pl_nil))) ⟨.nd r' ((toThs qs ++ [toTh v]) ++ [toTh v]), ?_, ?_, ?_⟩
      · rw [thD, thsD_app, thsD_app, thsD, thsD, ev]
      · rw [dpH, dpHL_app, dpHL_app, dpHL, dpHL]; omega
      · rw [szT, szTL_app, szTL_app, szTL, szTL]; omega
    refine w_if (t_cmp (c_eqI (p_var (i := 4) rfl (.inl rfl) rfl) p_int)) (fun _ => ?_) (fun _ => w_nil ?_)
    · obtain ⟨bs, b, eb⟩ : ∃ bs b, p.2.1 = bs ++ [b] := ⟨p.2.1.dropLast, p.2.1.getLast (List.length_pos_iff.mp (by omega)), (List.dropLast_concat_getLast _).symm⟩
      have eB : bodyD p.2.1 = .tup (bs.map D.str ++ [.str b]) := by unfold bodyD; rw [eb, List.map_append]; rfl
      refine w_ret (p_tup (pl_cons (p_ixT (p_var (i := 1) rfl (.inl rfl) rfl) p_int rfl) (pl_cons (p_catT (p_eq (p_sliceTA (p_var (i := 5) rfl (.inl rfl) rfl) o_none (o_some (p_neg p_int))) (congrArg D.tup cut_init)) (p_tup (pl_cons (p_ixL (p_lst (pl_cons p_str (pl_cons (p_ixT (p_eq (p_ixT (p_ixL (d := ruleD p) (p_var (i := 0) rfl (.inl rfl) rfl) (p_ixT (p_var (i := 1) rfl (.inl rfl) rfl) p_int rfl) ?_) p_int rfl) eB) (p_neg p_int) at_last) pl_nil))) (p_mod (p_fdivP py (p_var (i := 2) rfl (.inl rfl) rfl) p_int (by decide)) p_int (by decide)) (atI_two c2.1 c2.2)) pl_nil)) (by rw [List.length_singleton]; omega)) pl_nil))) ⟨.nd r' (toThs qs ++ [.lf (if c / 7 % 2 = 0 then "other" else b)]), ?_, ?_, ?_⟩
      · exact rule_at (by rw [ruleAt_nat]; exact hp)
      · rw [thD, thsD_app, thsD, thsD, thD]
        congr 5
        split <;> rfl
      · rw [dpH, dpHL_app, dpHL, dpHL, dpH]; omega
      · rw [szT, szTL_app, szTL, szTL, szT]; omega
    refine w_if (t_cmp (c_eqI (p_var (i := 4) rfl (.inl rfl) rfl) p_int)) (fun _ => ?_) (fun _ => w_nil ?_)
    · refine w_ret (p_tup (pl_cons (p_ixL (p_lst (pl_cons (p_var (i := 3) rfl (.inl rfl) rfl) (pl_cons (p_sub (p_ixT (p_var (i := 1) rfl (.inl rfl) rfl) p_int rfl) (p_var (i := 3) rfl (.inl rfl) rfl)) pl_nil))) (p_mod (p_fdivP py (p_var (i := 2) rfl (.inl rfl) rfl) p_int (by decide)) p_int (by decide)) (atI_two c2.1 c2.2)) (pl_cons (p_var (i := 5) rfl (.inl rfl) rfl) pl_nil))) ⟨.nd (if c / 7 % 2 = 0 then ((rulesD rs).length : Nat) else (r' : Int) - ((rulesD rs).length : Nat)) (toThs qs ++ [toTh v]), ?_, ?_, ?_⟩
      · rw [thD, thsD_app, thsD, thsD, ev]
        congr 2
        split <;> rfl
      · rw [dpH, dpHL_app, dpHL, dpHL]; omega
      · rw [szT, szTL_app, szTL, szTL]; omega
    refine w_if (t_cmp (c_eqI (p_var (i := 4) rfl (.inl rfl) rfl) p_int)) (fun _ => ?_) (fun _ => w_nil ?_)
    · refine w_ret (p_tup (pl_cons (p_ixT (p_var (i := 1) rfl (.inl rfl) rfl) p_int rfl) pl_nil)) ⟨.one r', ?_, ?_, ?_⟩
      · rw [thD]
      · rw [dpH]; omega
      · rw [szT]; omega
    refine w_ret (p_tup (pl_cons (p_ixT (p_var (i := 1) rfl (.inl rfl) rfl) p_int rfl) (pl_cons (p_catT (p_eq (p_sliceTA (p_var (i := 5) rfl (.inl rfl) rfl) o_none (o_some (p_neg p_int))) (congrArg D.tup cut_init)) (p_tup (pl_cons (p_tup (pl_cons p_int (pl_cons (p_tup pl_nil) pl_nil))) pl_nil)) (by rw [List.length_singleton]; omega)) pl_nil))) ⟨.nd r' (toThs qs ++ [.nd 0 []]), ?_, ?_, ?_⟩
    · rw [thD, thsD_app, thsD, thsD, thD, thsD]
    · rw [dpH, dpHL_app, dpHL, dpHL, dpH, dpHL]; omega
    · rw [szT, szTL_app, szTL, szTL, szT, szTL]; omega
end
end Law
set_option Elab.async false
set_option linter.all false
set_option maxRecDepth 100000
set_option maxHeartbeats 4000000
namespace Law
open PySem L2 L3
section
variable {P : Program} {w : World} {K : PySem.W.Frag} {mg : Str → Option Value} {base : Heap} {C_Grammar : Addr}
theorem ok_law_dice (d : DefK K mg "_law_dice" s_law_dice ["_law_cell"]) : OkF P w K mg base CX0 2 "_law_dice" ["_law_cell"] spDice := by
  refine d.ok (k := 1) sc_law_dice (fun vs H Q E h => ?_) (fun f cdv A outer s H vs Q E hr h => ⟨_, pss_one (ps_ret (pe_lst (pa_cons (pe_op op_mod (pv 0) pe_int) pa_nil))), ?_⟩)
  · obtain ⟨c, rfl, _⟩ := h
    rfl
  · obtain ⟨c, rfl, q⟩ := h
    have m := emod_in (a := c) (show (0 : Int) < 2147483647 by decide)
    exact ⟨_, rfl, _, _, rfl, rfl, (by show (0 : Int) < 2147483647; decide), (by show 1 ≤ sizeLine; decide), fun p hp => q p _ hp m.1 m.2⟩
theorem ok_law_roll (d : DefK K mg "_law_roll" s_law_roll ["_law_dice_here", "_law_most"]) : OkF P w K mg base CX0 2 "_law_roll" ["_law_dice_here", "_law_most"] spRoll := by
  refine d.ok (k := 1) sc_law_roll (fun vs H Q E h => ?_) (fun f cdv A outer s H vs Q E hr h => ⟨_, pss_cons (ps_asg (pe_op op_mod (pe_op op_add (pe_op op_mulI (pe_ix ix_list (pv 0) pe_int (fun _ _ => rfl)) pe_int) pe_int) pe_int) (pg_sub (pv 0) pe_int set_list)) (pss_one (ps_ret (pe_op op_mod (pe_op op_fdiv (pe_ix ix_list (pv 0) pe_int (fun _ _ => rfl)) pe_int) (pv 1)))), ?_⟩)
  · obtain ⟨a, m, x, rfl, _⟩ := h
    rfl
  · obtain ⟨a, m, x, rfl, h1, h2, hH, x0, x1, q⟩ := h
    have mm := emod_in (a := x * 48271 + 11) (show (0 : Int) < 2147483647 by decide)
    have mr := emod_in (a := (x * 48271 + 11) % 2147483647 / 7) h1
    refine ⟨_, rfl, a, _, _, _, rfl, rfl, SqL.of hH, atI_nat (j := 0) rfl, _, _, rfl, rfl, mul_small (by decide), _, _, rfl, rfl, _, _, rfl, rfl, (by show (0 : Int) < 2147483647; decide), ?_⟩
    refine ⟨_, rfl, a, _, _, 0, rfl, rfl, hH, rfl, ?_⟩
    refine ⟨_, rfl, a, _, _, _, rfl, rfl, SqL.of upd_same, atI_nat (j := 0) rfl, _, _, rfl, rfl, (by constructor <;> decide), _, rfl, _, _, rfl, rfl, h1, ?_⟩
    exact q _ _ mm.1 mm.2 mr.1 mr.2
theorem ok_law_tree (z : Zs mg) (d : DefK K mg "_law_tree" s_law_tree ["_law_dice_here", "_law_rules_here", "_law_head", "_law_deep"]) (o_law_roll : OkF P w K mg base CX0 2 "_law_roll" ["_law_dice_here", "_law_most"] spRoll) {rs : List Rule} (hb : ∀ q ∈ rs, 1 ≤ q.2.1.length ∧ q.2.1.length ≤ 4) (hl : rs.length ≤ 100) : ∀ n y, y ∈ rs.map (·.1) →
    OkF P w K mg base CX0 (n + 3) "_law_tree" ["_law_dice_here", "_law_rules_here", "_law_head", "_law_deep"] (spD K 4 (C0_tree rs y n) (C_tree rs y n)) := by
  intro n
  induction n using Nat.strongRecOn with
  | ind n ih =>
  intro y hy
  refine ok_draws d sc_law_tree rfl fun f cdv A outer s H E hr a ds hC B => ?_
  obtain ⟨m0, hm0, rfl⟩ := hC
  have fl : ∀ i, ((List.range i).filter (ofHead rs y)).length ≤ i := fun i => by
    have := List.length_filter_le (ofHead rs y) (List.range i)
    rw [List.length_range] at this
    exact this
  refine w_setC (i := 4) (SX := defScope s_law_tree) (XN := ["_law_dice_here", "_law_rules_here", "_law_head", "_law_deep", "_law_some", "_law_headed", "_law_at", "_law_flat", "_law_parts", "_law_symbol", "_law_part"]) (N := ["_law_k", "_law_rules_here", "_law_head"]) (nt := 1) (caps := [1, 2]) (pre := (fun i => numsD ((List.range i).filter (ofHead rs y))))  ⟨rfl, by decide +kernel, by decide +kernel, by decide +kernel, rfl, by decide +kernel⟩ sc_law_tree.nd rfl (.inl rfl)  (i_rangeN (n := rs.length) z.range rfl (p_lenL z.len rfl (p_var (i := 1) rfl (.inr (.inl rfl)) rfl)) ?_ ?_) ?_ ?_ ?_ ?_
  · rw [rulesD_len]
  · omega
  · intro i hi
    rw [nums_len] at hi
    rw [numsD_len, sizeLine_eq]
    have := fl i
    omega
  · rfl
  · intro c i d hd
    obtain ⟨hi, rfl⟩ := nums_lt hd
    rw [Nat.zero_add]
    obtain ⟨q, hq⟩ : ∃ q, rs[i]? = some q := ⟨_, List.getElem?_eq_getElem hi⟩
    have rq : atI (rulesD rs) (i : Int) = some (ruleD q) := rule_at (by rw [ruleAt_nat]; exact hq)
    cases e : decide (q.1 = y) with
    | true =>
      refine ⟨_, (g_name (i := 0) (show List.Nodup (α := Str) ["_law_k", "_law_rules_here", "_law_head"] by decide +kernel) rfl (.inl rfl)), (Sub.set rfl), .inl ⟨.int (i : Int), (ts_is (t_cmp (c_eqS (p_ixT (p_ixL (d := ruleD q) (p_var (i := 1) rfl (.inr (.inl rfl)) rfl) (p_var (i := 0) rfl (.inl rfl) rfl) ?_) p_int rfl) (p_var (i := 2) rfl (.inr (.inl rfl)) rfl))) ?_), (p_var (i := 0) rfl (.inl rfl) rfl), ?_⟩⟩
      · exact rq
      · exact e
      · show numsD ((List.range (i + 1)).filter (ofHead rs y)) = numsD ((List.range i).filter (ofHead rs y)) ++ [D.int (i : Int)]
        have e2 : ofHead rs y i = true := by unfold ofHead; rw [hq]; exact e
        rw [List.range_succ, List.filter_append, List.filter_cons_of_pos e2, numsD_app]
        rfl
    | false =>
      refine ⟨_, (g_name (i := 0) (show List.Nodup (α := Str) ["_law_k", "_law_rules_here", "_law_head"] by decide +kernel) rfl (.inl rfl)), (Sub.set rfl), .inr ⟨(ts_is (t_cmp (c_eqS (p_ixT (p_ixL (d := ruleD q) (p_var (i := 1) rfl (.inr (.inl rfl)) rfl) (p_var (i := 0) rfl (.inl rfl) rfl) ?_) p_int rfl) (p_var (i := 2) rfl (.inr (.inl rfl)) rfl))) ?_), ?_⟩⟩
      · exact rq
      · exact e
      · show numsD ((List.range (i + 1)).filter (ofHead rs y)) = numsD ((List.range i).filter (ofHead rs y))
        have e2 : ¬ ofHead rs y i = true := by unfold ofHead; rw [hq]; show ¬ decide (q.1 = y) = true; rw [e]; exact Bool.false_ne_true
        rw [List.range_succ, List.filter_append, List.filter_cons_of_neg e2, List.filter_nil, List.append_nil]
  rw [nums_len]
  generalize hso : (List.range rs.length).filter (ofHead rs y) = so
  have so1 : ∀ k ∈ so, ∃ q, rs[k]? = some q ∧ q.1 = y := fun k hk => by
    rw [← hso, List.mem_filter] at hk
    have h2 := hk.2
    unfold ofHead at h2
    cases e : rs[k]? with
    | none => rw [e] at h2; cases h2
    | some q => rw [e] at h2; exact ⟨q, rfl, of_decide_eq_true h2⟩
  have so2 : so.length ≤ 100 := by rw [← hso]; have := fl rs.length; omega
  have so0 : 0 < so.length := by
    obtain ⟨q, hq, e⟩ := List.mem_map.mp hy
    obtain ⟨k, hk, e2⟩ := List.getElem_of_mem hq
    have : k ∈ so := by
      rw [← hso, List.mem_filter]
      refine ⟨List.mem_range.mpr hk, ?_⟩
      unfold ofHead
      rw [List.getElem?_eq_getElem hk, e2]
      exact decide_eq_true e
    exact List.length_pos_of_mem this
  refine w_set (i := 5) sc_law_tree.nd rfl (.inr rfl) (PF3.p (pf_comp (SX := defScope s_law_tree) (XN := ["_law_dice_here", "_law_rules_here", "_law_head", "_law_deep", "_law_some", "_law_headed", "_law_at", "_law_flat", "_law_parts", "_law_symbol", "_law_part"]) (N := ["_law_rule"]) (nt := 1) (caps := []) (pre := (fun i => strsD ((rs.take i).map (·.1)))) ⟨rfl, by decide +kernel, by decide +kernel, by decide +kernel, rfl, by decide +kernel⟩ (i_list (p_var (i := 1) rfl (.inr (.inl rfl)) rfl)) ?_ ?_ ?_)) ?_
  · intro i _
    rw [strsD_len, List.length_map, sizeLine_eq]
    have := List.length_take_le' i rs
    omega
  · rfl
  · intro c i d hd'
    unfold rulesD at hd'
    rw [List.getElem?_map] at hd'
    obtain ⟨q, hq, rfl⟩ := Option.map_eq_some_iff.mp hd'
    refine ⟨_, (g_name (i := 0) (show List.Nodup (α := Str) ["_law_rule"] by decide +kernel) rfl (.inl rfl)), (Sub.set rfl), .inl ⟨.str q.1, ts_nil, (p_ixT (p_var (i := 0) rfl (.inl rfl) rfl) p_int rfl), ?_⟩⟩
    show strsD ((rs.take (i + 1)).map (·.1)) = strsD ((rs.take i).map (·.1)) ++ [D.str q.1]
    rw [take_get hq, List.map_append]
    unfold strsD
    rw [List.map_append]
    rfl
  rw [rulesD_len, List.take_length]
  refine w_setV (i := 6) sc_law_tree.nd rfl (.inl rfl) (v_ixL (v_pure (p_var (i := 4) rfl (.inl rfl) rfl) ⟨_, rfl, v_roll o_law_roll (hr.mono (by omega)) rfl (p_var (i := 0) rfl (.inl rfl) rfl) (by simp) (p_lenL z.len rfl (p_var (i := 4) rfl (.inl rfl) rfl)) (by rw [numsD_len]; omega) (by rw [numsD_len]; omega) fun r0 h1 h2 => ?_⟩))
  rw [numsD_len] at h2
  obtain ⟨k0, hk0, ek0⟩ := pickN h1 h2
  refine ⟨r0, _, rfl, ek0, ?_⟩
  refine w_if2 (fun Γ Ω => ∃ (k : Nat) (q : Rule) (x7 : Option D), rs[k]? = some q ∧ q.1 = y ∧ (m0 = 0 → ∀ x ∈ q.2.1, x ∉ rs.map (·.1)) ∧ Γ = [some (.raw (.ref a)), some (.lst (rulesD rs)), some (.str y), some (.int (m0 : Int)), some (.lst (numsD so)), some (.lst (strsD (rs.map (·.1)))), some (.int (k : Int)), x7, none, none, none] ∧ Ω = [(a, oDice)]) (t_cmp (c_le (p_var (i := 3) rfl (.inl rfl) rfl) p_int)) ?_ ?_ ?_
  · intro hk
    refine w_setC (i := 7) (SX := defScope s_law_tree) (XN := ["_law_dice_here", "_law_rules_here", "_law_head", "_law_deep", "_law_some", "_law_headed", "_law_at", "_law_flat", "_law_parts", "_law_symbol", "_law_part"]) (N := ["_law_k", "_law_rules_here", "_law_headed"]) (nt := 1) (caps := [1, 5]) (pre := fun i => numsD ((so.take i).filter (isFlat rs))) ⟨rfl, by decide +kernel, by decide +kernel, by decide +kernel, rfl, by decide +kernel⟩ sc_law_tree.nd rfl (.inl rfl) (i_list (p_var (i := 4) rfl (.inl rfl) rfl)) ?_ ?_ ?_ ?_
    · intro i _
      rw [numsD_len, sizeLine_eq]
      have h3 := List.length_filter_le (isFlat rs) (so.take i)
      have h4 := List.length_take_le' i so
      omega
    · rfl
    · intro c i d hd
      obtain ⟨k, hk', rfl⟩ := numsD_get hd
      obtain ⟨q, hq, eq⟩ := so1 k (List.mem_of_getElem? hk')
      have rq : atI (rulesD rs) (k : Int) = some (ruleD q) := rule_at (by rw [ruleAt_nat]; exact hq)
      have b4 := (hb q (List.mem_of_getElem? hq)).2
      have e5 : isFlat rs k = beqD (.lst (strsD (q.2.1.filter fun x => decide (x ∈ rs.map (·.1))))) (.lst []) := by
        unfold isFlat
        rw [hq, beq_nil]
        unfold strsD
        rw [List.isEmpty_map]
      refine ⟨_, (g_name (i := 0) (show List.Nodup (α := Str) ["_law_k", "_law_rules_here", "_law_headed"] by decide +kernel) rfl (.inl rfl)), (Sub.set rfl), cs_test (t_cmp (c_eq hr.units (p_eq (d := .lst (strsD (q.2.1.filter fun x => decide (x ∈ rs.map (·.1))))) (PF3.p (pf_comp (N := ["_law_symbol", "_law_headed"]) (nt := 1) (caps := [2]) (XN := ["_law_k", "_law_rules_here", "_law_headed"]) (pre := fun i => strsD ((q.2.1.take i).filter fun x => decide (x ∈ rs.map (·.1)))) (hX := rfl) (hN := rfl) ⟨rfl, by decide +kernel, by decide +kernel, free3 (.inl rfl), rfl, by decide +kernel⟩ (i_tup (ds := q.2.1.map D.str) (p_ixT (p_ixL (d := ruleD q) (p_var (i := 1) rfl (.inr (.inl rfl)) rfl) (p_var (i := 0) rfl (.inl rfl) rfl) rq) p_int rfl)) ?_ ?_ ?_)) ?_) (p_lst pl_nil) ?_ ?_)) (fun h => ⟨.int (k : Int), (p_var (i := 0) rfl (.inl rfl) rfl), ?_⟩) (fun h => ?_)⟩
      · intro i _
        rw [strsD_len, sizeLine_eq]
        have h3 := List.length_filter_le (fun x => decide (x ∈ rs.map (·.1))) (q.2.1.take i)
        have h4 := List.length_take_le' i q.2.1
        omega
      · rfl
      · intro c2 i2 d2 hd2
        rw [List.getElem?_map] at hd2
        obtain ⟨x, hx, rfl⟩ := Option.map_eq_some_iff.mp hd2
        cases e6 : decide (x ∈ rs.map (·.1)) with
        | true =>
          refine ⟨_, (g_name (i := 0) (show List.Nodup (α := Str) ["_law_symbol", "_law_headed"] by decide +kernel) rfl (.inl rfl)), (Sub.set rfl), .inl ⟨.str x, (ts_is (t_cmp (c_in hr.units (p_var (i := 0) rfl (.inl rfl) rfl) (p_var (i := 1) rfl (.inr (.inl rfl)) rfl) (.inl rfl) ?_)) ?_), (p_var (i := 0) rfl (.inl rfl) rfl), ?_⟩⟩
          · exact strs_kin
          · rw [in_strs]; exact e6
          · show strsD ((q.2.1.take (i2 + 1)).filter fun x => decide (x ∈ rs.map (·.1))) = strsD ((q.2.1.take i2).filter fun x => decide (x ∈ rs.map (·.1))) ++ [D.str x]
            rw [take_get hx, List.filter_append, List.filter_cons_of_pos (p := fun x => decide (x ∈ rs.map (·.1))) e6, List.filter_nil]
            unfold strsD
            rw [List.map_append]
            rfl
        | false =>
          refine ⟨_, (g_name (i := 0) (show List.Nodup (α := Str) ["_law_symbol", "_law_headed"] by decide +kernel) rfl (.inl rfl)), (Sub.set rfl), .inr ⟨(ts_is (t_cmp (c_in hr.units (p_var (i := 0) rfl (.inl rfl) rfl) (p_var (i := 1) rfl (.inr (.inl rfl)) rfl) (.inl rfl) ?_)) ?_), ?_⟩⟩
          · exact strs_kin
          · rw [in_strs]; exact e6
          · show strsD ((q.2.1.take (i2 + 1)).filter fun x => decide (x ∈ rs.map (·.1))) = strsD ((q.2.1.take i2).filter fun x => decide (x ∈ rs.map (·.1)))
            rw [take_get hx, List.filter_append, List.filter_cons_of_neg (p := fun x => decide (x ∈ rs.map (·.1))) (fun z => by rw [e6] at z; cases z), List.filter_nil, List.append_nil]
      · show D.lst (strsD ((q.2.1.take (q.2.1.map D.str).length).filter fun x => decide (x ∈ rs.map (·.1)))) = _
        rw [List.length_map, List.take_length]
      · exact nil_kin
      · exact dep_lstrs
      · rw [← e5] at h
        show numsD ((so.take (i + 1)).filter (isFlat rs)) = numsD ((so.take i).filter (isFlat rs)) ++ [D.int (k : Int)]
        rw [take_get hk', List.filter_append, List.filter_cons_of_pos h, numsD_app]
        rfl
      · rw [← e5] at h
        show numsD ((so.take (i + 1)).filter (isFlat rs)) = numsD ((so.take i).filter (isFlat rs))
        rw [take_get hk', List.filter_append, List.filter_cons_of_neg (by rw [h]; exact Bool.false_ne_true), List.filter_nil, List.append_nil]
    rw [numsD_len, List.take_length]
    generalize hfo : so.filter (isFlat rs) = fo
    have fo2 : fo.length ≤ 100 := by rw [← hfo]; have := List.length_filter_le (isFlat rs) so; omega
    refine w_if (t_cmp (c_eq hr.units (p_var (i := 7) rfl (.inl rfl) rfl) (p_lst pl_nil) nil_kin ?_)) (fun _ => ?_) (fun h8 => w_nil ?_)
    · exact dep_nums
    · refine w_ret p_non ?_
      exact ⟨.inl rfl, rfl⟩
    · rw [beq_nil] at h8
      have fo0 : 0 < fo.length := by
        cases fo with
        | nil => cases h8
        | cons _ _ => simp
      refine w_setV (i := 6) sc_law_tree.nd rfl (.inl rfl) (v_ixL (v_pure (p_var (i := 7) rfl (.inl rfl) rfl) ⟨_, rfl, v_roll o_law_roll (hr.mono (by omega)) rfl (p_var (i := 0) rfl (.inl rfl) rfl) (by simp) (p_lenL z.len rfl (p_var (i := 7) rfl (.inl rfl) rfl)) (by rw [numsD_len]; omega) (by rw [numsD_len]; omega) fun r1 g1 g2 => ?_⟩))
      rw [numsD_len] at g2
      obtain ⟨k1, hk1, ek1⟩ := pickN g1 g2
      refine ⟨r1, _, rfl, ek1, ?_⟩
      rw [← hfo, List.mem_filter] at hk1
      obtain ⟨q, hq, eq⟩ := so1 k1 hk1.1
      refine w_nil ⟨k1, q, _, hq, eq, fun _ x hx hm => ?_, rfl, rfl⟩
      have h9 := hk1.2
      unfold isFlat at h9
      rw [hq] at h9
      have h9 : (q.2.1.filter fun x => decide (x ∈ rs.map (·.1))).isEmpty = true := h9
      rw [List.isEmpty_iff, List.filter_eq_nil_iff] at h9
      exact h9 x hx (decide_eq_true hm)
  · intro hk
    obtain ⟨q, hq, eq⟩ := so1 k0 hk0
    exact w_nil ⟨k0, q, _, hq, eq, fun h => by subst h; simp at hk, rfl, rfl⟩
  rintro Γ Ω ⟨k, q, x7, hq, eq, hflat, rfl, rfl⟩
  have b4 := hb q (List.mem_of_getElem? hq)
  have rq : atI (rulesD rs) (k : Int) = some (ruleD q) := rule_at (by rw [ruleAt_nat]; exact hq)
  refine w_own (i := 8) sc_law_tree.nd rfl (.inl rfl) (pf_lst pl_nil) fun lo => ?_
  refine w_for PassesOwn.never rfl (i_tup (ds := q.2.1.map D.str) (p_ixT (p_ixL (d := ruleD q) (p_var (i := 1) rfl (.inr (.inl rfl)) rfl) (p_var (i := 6) rfl (.inl rfl) rfl) rq) p_int rfl)) (fun i Γ Ω => ∃ (os : List (Option Tr)) (x9 x10 : Option D), os.length = i ∧ (∀ (j : Nat) (o : Option Tr) (x : Str), os[j]? = some o → q.2.1[j]? = some x → PtOk rs n x o) ∧ Γ = [some (.raw (.ref a)), some (.lst (rulesD rs)), some (.str y), some (.int (m0 : Int)), some (.lst (numsD so)), some (.lst (strsD (rs.map (·.1)))), some (.int (k : Int)), x7, some (.raw (.ref lo)), x9, x10] ∧ Ω = [(lo, oLst K (os.map ptD)), (a, oDice)]) ⟨[], _, _, rfl, fun j o x h => absurd h (by simp), rfl, rfl⟩ ?_ ?_
  · rintro i d Γ Ω hd ⟨os, x9, x10, ho, hos, rfl, rfl⟩
    rw [List.getElem?_map] at hd
    obtain ⟨x, hx, rfl⟩ := Option.map_eq_some_iff.mp hd
    have hxm := List.mem_of_getElem? hx
    have hi : i < q.2.1.length := (List.getElem?_eq_some_iff.mp hx).1
    have next : ∀ o : Option Tr, PtOk rs n x o → ∀ (j : Nat) (o' : Option Tr) (x' : Str), (os ++ [o])[j]? = some o' → q.2.1[j]? = some x' → PtOk rs n x' o' := fun o h j o' x' h1 h2 => by
      rcases Nat.lt_or_ge j os.length with hj | hj
      · rw [List.getElem?_append_left hj] at h1
        exact hos j o' x' h1 h2
      · rw [List.getElem?_append_right hj] at h1
        have : j = i := by
          have := (List.getElem?_eq_some_iff.mp h1).1
          simp at this
          omega
        subst this
        rw [ho, Nat.sub_self] at h1
        cases h1
        rw [hx] at h2
        cases h2
        exact h
    refine ⟨_, (g_name (i := 9) sc_law_tree.nd rfl (.inl rfl)), ?_⟩
    refine w_set (i := 10) sc_law_tree.nd rfl (.inl rfl) (p_var (i := 9) rfl (.inl rfl) rfl) ?_
    refine w_ifV2 (fun Γ Ω => ∃ o : Option Tr, PtOk rs n x o ∧ Γ = [some (.raw (.ref a)), some (.lst (rulesD rs)), some (.str y), some (.int (m0 : Int)), some (.lst (numsD so)), some (.lst (strsD (rs.map (·.1)))), some (.int (k : Int)), x7, some (.raw (.ref lo)), some (.str x), some (ptD o)] ∧ Ω = [(lo, oLst K (os.map ptD)), (a, oDice)]) (vt_pure (t_cmp (c_in hr.units (p_var (i := 9) rfl (.inl rfl) rfl) (p_var (i := 5) rfl (.inr (.inl rfl)) rfl) (.inl rfl) strs_kin)) ⟨fun hk => ?_, fun hk => ?_⟩) ?_
    · rw [in_strs] at hk
      have hxr : x ∈ rs.map (·.1) := of_decide_eq_true hk
      obtain ⟨m, rfl⟩ : ∃ m, m0 = m + 1 := by
        cases m0 with
        | zero => exact absurd hxr (hflat rfl x hxm)
        | succ m => exact ⟨m, rfl⟩
      have ihm := ih (n - 1) (by omega) x hxr
      refine w_setV (i := 10) sc_law_tree.nd rfl (.inl rfl) (v_callD ihm (hr.mono (by omega)) rfl (p_var (i := 0) rfl (.inl rfl) rfl) (by simp) (vl_pure (pl_cons (p_var (i := 1) rfl (.inr (.inl rfl)) rfl) (pl_cons (p_var (i := 9) rfl (.inl rfl) rfl) (pl_cons (p_eq (p_sub (p_var (i := 3) rfl (.inl rfl) rfl) p_int) (show D.int _ = D.int (m : Int) by congr 1; omega)) pl_nil))) ⟨rfl, rfl, ⟨m, by omega, rfl⟩, fun d hd => ?_⟩))
      rcases hd with rfl | ⟨t, rfl, ht⟩
      · exact w_nil ⟨none, (fun t h => by cases h), rfl, rfl⟩
      · refine w_nil ⟨some t, fun t' h => ?_, rfl, rfl⟩
        cases h
        exact ⟨ht.tr, by have := ht.dp; omega, by rw [if_neg (by omega)]; exact ht.sz⟩
    · rw [in_strs] at hk
      refine w_nil ⟨some (.lf x), fun t h => ?_, by rw [ptD, trD]; rfl, rfl⟩
      cases h
      refine ⟨?_, by rw [dpt]; exact Nat.zero_le _, ?_⟩
      · rw [toTh, isTr, hk, decide_eq_true rfl]; rfl
      · rw [toTh, szT]; split
        · exact Nat.le_refl _
        · exact bnd_pos
    · rintro Γ Ω ⟨o, po, rfl, rfl⟩
      refine w_append (i := 8) rfl (.inl rfl) rfl (p_var (i := 10) rfl (.inl rfl) rfl) (by rw [List.length_map, sizeLine_eq]; omega) ?_
      refine w_nil ⟨os ++ [o], _, _, by rw [List.length_append, ho]; rfl, next o po, rfl, ?_⟩
      rw [List.map_append]
      rfl
  · rintro Γ Ω ⟨os, x9, x10, ho, hos, rfl, rfl⟩
    rw [List.length_map] at ho
    refine w_ifV (vt_lend (Γ' := [some (.raw (.ref a)), some (.lst (rulesD rs)), some (.str y), some (.int (m0 : Int)), some (.lst (numsD so)), some (.lst (strsD (rs.map (·.1)))), some (.int (k : Int)), x7, some (.lst (os.map ptD)), x9, x10]) (t_cmp (c_inN hr.units p_non (p_var (i := 8) rfl (.inl rfl) rfl) (fun e he => by obtain ⟨o, _, rfl⟩ := List.mem_map.mp he; exact ptD_nst))) (lent_set (i := 8) lent_refl rfl (List.mem_cons_self ..) lends_lst) ⟨fun hk => ?_, fun hk => ?_⟩)
    · refine w_freeze (i := 8) rfl ?_
      refine w_ret p_non ?_
      exact ⟨.inl rfl, rfl⟩
    · rw [any_ptD] at hk
      obtain ⟨ts, rfl⟩ := parts_all hk
      refine w_nil (w_freeze (i := 8) rfl ?_)
      have e9 : (ts.map some).map ptD = trsD ts := by rw [List.map_map, trsD_map]; rfl
      rw [e9]
      refine w_ret (p_tup (pl_cons (p_var (i := 6) rfl (.inl rfl) rfl) (pl_cons (p_tupleOf z.tuple rfl (p_var (i := 8) rfl (.inl rfl) rfl) (.inl rfl)) pl_nil))) ⟨.inr ⟨.nd k ts, by rw [trD], ?_⟩, rfl⟩
      rw [← eq]
      refine tree_ok hq (by rw [← ho, List.length_map]) b4.2 fun j t x h1 h2 => hos j (some t) x (by rw [List.getElem?_map, h1]; rfl) h2
end
end Law
set_option Elab.async false
set_option linter.all false
set_option maxRecDepth 100000
set_option maxHeartbeats 4000000
namespace Law
open PySem L2 L3
section
variable {P : Program} {w : World} {K : PySem.W.Frag} {mg : Str → Option Value} {base : Heap} {C_Grammar : Addr}
theorem ok_is_letter  (d : DefK K mg "is_letter" s_is_letter ["sign"])  : OkF P w K mg base CX0 2 "is_letter" ["sign"] (spP K 1 C_letter) := by
  refine ok_pure d sc_is_letter rfl fun f cdv A outer s H E hr ds r hC B hB => ?_
  obtain ⟨c, rfl, rfl⟩ := hC
  refine w_ret (p_or (p_chainS p_str (p_var (i := 0) rfl (.inl rfl) rfl) p_str) fun _ => (p_one (p_chainS p_str (p_var (i := 0) rfl (.inl rfl) rfl) p_str))) ?_
  show D.bl ((leS "a" ⟨#[c]⟩ && leS ⟨#[c]⟩ "z") || (leS "A" ⟨#[c]⟩ && leS ⟨#[c]⟩ "Z")) = D.bl (isLet c)
  rw [leS_l (n := 97) (by decide +kernel), leS_r (n := 122) (by decide +kernel), leS_l (n := 65) (by decide +kernel), leS_r (n := 90) (by decide +kernel)]
  rfl
theorem ok_is_symbol (z : Zs mg) (g_MOST_LETTERS : GlobD K mg "MOST_LETTERS" (.int 8)) (d : DefK K mg "is_symbol" s_is_symbol ["text"]) (o_is_letter : OkF P w K mg base CX0 2 "is_letter" ["sign"] (spP K 1 C_letter)) : OkF P w K mg base CX0 3 "is_symbol" ["text"] (spP K 1 C_isSym) := by
  refine ok_pure d sc_is_symbol rfl fun f cdv A outer s H E hr ds r hC B hB => ?_
  obtain ⟨x, rfl, rfl, h1, h2⟩ := hC
  have hl : x.length = x.cps.size := rfl
  refine w_ret (p_and (p_chainI2 p_int (p_lenS z.len rfl (p_var (i := 0) rfl (.inl rfl) rfl) ?_) (p_globD g_MOST_LETTERS rfl)) fun _ => (p_one (p_all rfl z.all rfl (PF3.p (pf_comp (SX := defScope s_is_symbol) (XN := ["text"]) (N := ["sign"]) (nt := 1) (caps := []) (pre := (fun i => ((x.cps.toList.take i).map isLet).map D.bl)) ⟨rfl, by decide +kernel, by decide +kernel, by decide +kernel, rfl, by decide +kernel⟩ (i_text (p_var (i := 0) rfl (.inl rfl) rfl) ?_) ?_ ?_ ?_))))) ?_
  · rw [hl, sizeLine_eq]; omega
  · exact h2
  · intro i hi
    rw [List.length_map, List.length_map, List.length_take, sizeLine_eq]
    simp only [Array.length_toList]
    omega
  · rfl
  · intro c i d hd
    obtain ⟨n, hn, rfl⟩ := signs_get hd
    refine ⟨_, (g_name (i := 0) (show List.Nodup (α := Str) ["sign"] by decide +kernel) rfl (.inl rfl)), (Sub.set rfl), .inl ⟨.bl (isLet n), ts_nil, (p_call (d := .bl (isLet n)) o_is_letter (hr.mono (by decide)) rfl (pl_cons (p_var (i := 0) rfl (.inl rfl) rfl) pl_nil) ?_), ?_⟩⟩
    · exact ⟨n, rfl, rfl⟩
    · dsimp only; rw [take_get hn, List.map_append, List.map_append]; rfl
  show D.bl _ = D.bl _
  congr 1
  rw [signs_len, ← Array.length_toList, List.take_length, List.all_map, Bool.eq_iff_iff, isSymB_iff]
  simp only [Bool.and_eq_true, decide_eq_true_eq, List.all_eq_true, IsSym]
  rw [hl]
  constructor
  · intro h; exact ⟨by omega, by omega, fun c hc => h.2 c hc⟩
  · intro h; exact ⟨⟨by omega, by omega⟩, fun c hc => h.2.2 c hc⟩
theorem ok_check_symbol (z : Zs mg) (g_MOST_LETTERS : GlobD K mg "MOST_LETTERS" (.int 8)) (d : DefK K mg "check_symbol" s_check_symbol ["text"]) (o_is_symbol : OkF P w K mg base CX0 3 "is_symbol" ["text"] (spP K 1 C_isSym)) : OkF P w K mg base CX0 4 "check_symbol" ["text"] (spP K 1 C_symbol) := by
  refine ok_pure d sc_check_symbol rfl fun f cdv A outer s H E hr ds r hC B hB => ?_
  obtain ⟨x, rfl, rfl, hx⟩ := hC
  have e : isSymB x = true := isSymB_iff.mpr hx
  refine w_if (t_not (t_val (p_call (d := .bl (isSymB x)) o_is_symbol (hr.mono (by decide)) rfl (pl_cons (p_var (i := 0) rfl (.inl rfl) rfl) pl_nil) ?_))) ?_ ?_
  · exact ⟨x, rfl, rfl, by have := hx.2.1; omega, sym_ascii hx⟩
  · intro hk
    rw [e] at hk
    exact absurd hk (by decide)
  · intro _
    exact w_nil (w_nil rfl)
theorem ok_check_rule (z : Zs mg) (g_NOUGHT : GlobD K mg "NOUGHT" (sh 0)) (g_MOST_SYMBOLS : GlobD K mg "MOST_SYMBOLS" (.int 4)) (d : DefK K mg "check_rule" s_check_rule ["rule"]) (o_check_symbol : OkF P w K mg base CX0 4 "check_symbol" ["text"] (spP K 1 C_symbol)) : OkF P w K mg base CX0 5 "check_rule" ["rule"] (spP K 1 C_rule) := by
  refine ok_pure d sc_check_rule rfl fun f cdv A outer s H E hr ds r hC B hB => ?_
  obtain ⟨r, rfl, rfl, h1, h2, h3, h4, h5⟩ := hC
  refine w_expr (p_call (d := .non) o_check_symbol (hr.mono (by decide)) rfl (pl_cons (p_ixT (p_var (i := 0) rfl (.inl rfl) rfl) p_int rfl) pl_nil) ?_) ?_
  · exact ⟨r.1, rfl, rfl, h1⟩
  refine w_if (PW3.t (tw_or (t_cmp (c_lt (p_lenT z.len rfl (p_ixT (p_var (i := 0) rfl (.inl rfl) rfl) p_int rfl)) p_int)) fun _ => (tw_or1 (t_cmp (c_gt (p_lenT z.len rfl (p_ixT (p_var (i := 0) rfl (.inl rfl) rfl) p_int rfl)) (p_globD g_MOST_SYMBOLS rfl)))))) ?_ ?_
  · intro hk
    rw [show (r.2.1.map D.str).length = r.2.1.length from List.length_map _] at hk
    simp at hk
    omega
  · intro _
    refine w_nil ?_
    refine w_for PassesOwn.never rfl (i_tup (p_ixT (p_var (i := 0) rfl (.inl rfl) rfl) p_int rfl)) (fun i Γ Ω => ∃ x, Γ = [some (ruleD r), x] ∧ Ω = []) ⟨_, rfl, rfl⟩ ?_ ?_
    · rintro i d Γ Ω hd ⟨x, rfl, rfl⟩
      obtain ⟨y, hy, rfl⟩ := strsD_get hd
      refine ⟨_, (g_name (i := 1) sc_check_rule.nd rfl (.inl rfl)), ?_⟩
      refine w_expr (p_call (d := .non) o_check_symbol (hr.mono (by decide)) rfl (pl_cons (p_var (i := 1) rfl (.inl rfl) rfl) pl_nil) ?_) ?_
      · exact ⟨y, rfl, rfl, h4 y (List.mem_of_getElem? hy)⟩
      exact w_nil ⟨_, rfl, rfl⟩
    · rintro Γ Ω ⟨x, rfl, rfl⟩
      refine w_if (t_cmp (c_eq hr.units (p_ixT (p_var (i := 0) rfl (.inl rfl) rfl) p_int rfl) (p_globD g_NOUGHT rfl) kin_sh dep_sh)) ?_ ?_
      · intro hk
        rw [beq_sh] at hk
        rw [of_decide_eq_true hk] at h5
        exact absurd h5 (by decide)
      · intro _
        exact w_nil (w_nil rfl)
theorem ok_check_rules (z : Zs mg) (g_MOST_RULES : GlobD K mg "MOST_RULES" (.int 30)) (d : DefK K mg "check_rules" s_check_rules ["rules"]) (o_check_rule : OkF P w K mg base CX0 5 "check_rule" ["rule"] (spP K 1 C_rule)) : OkF P w K mg base CX0 6 "check_rules" ["rules"] (spP K 1 C_rules) := by
  refine ok_pure d sc_check_rules rfl fun f cdv A outer s H E hr ds r hC B hB => ?_
  obtain ⟨rs, rfl, rfl, h1, h2, h3, h4⟩ := hC
  refine w_if (PW3.t (tw_or (t_cmp (c_lt (p_lenL z.len rfl (p_var (i := 0) rfl (.inl rfl) rfl)) p_int)) fun _ => (tw_or1 (t_cmp (c_gt (p_lenL z.len rfl (p_var (i := 0) rfl (.inl rfl) rfl)) (p_globD g_MOST_RULES rfl)))))) ?_ ?_
  · intro hk
    rw [rulesD_len] at hk
    simp at hk
    omega
  · intro _
    refine w_nil ?_
    refine w_setV (i := 1) sc_check_rules.nd rfl (.inl rfl) (v_dnew fun l => ?_)
    refine w_for PassesOwn.never rfl (i_list (p_var (i := 0) rfl (.inl rfl) rfl)) (fun i Γ Ω => ∃ x, Γ = [some (.lst (rulesD rs)), some (.raw (.ref l)), x] ∧ Ω = [(l, oDic P w K l (seenD (rs.take i)))]) ⟨_, rfl, rfl⟩ ?_ ?_
    · rintro i d Γ Ω hd ⟨x, rfl, rfl⟩
      obtain ⟨r, hr', rfl⟩ := rulesD_get hd
      have hn := nodup_take (f := fun r : Rule => (r.1, r.2.1)) h4 hr'
      refine ⟨_, (g_name (i := 2) sc_check_rules.nd rfl (.inl rfl)), ?_⟩
      refine w_expr (p_call (d := .non) o_check_rule (hr.mono (by decide)) rfl (pl_cons (p_var (i := 2) rfl (.inl rfl) rfl) pl_nil) ?_) ?_
      · exact ⟨r, rfl, rfl, h3 r (List.mem_of_getElem? hr')⟩
      refine w_ifV (vt_inD hr.units (v_pure (p_tup (pl_cons (p_ixT (p_var (i := 2) rfl (.inl rfl) rfl) p_int rfl) (pl_cons (p_ixT (p_var (i := 2) rfl (.inl rfl) rfl) p_int rfl) pl_nil))) ⟨keyR r, keyR_eq r, v_pure (p_var (i := 1) rfl (.inl rfl) rfl) ⟨l, _, rfl, List.mem_singleton.mpr rfl, fun hk => ?_, fun _ => ?_⟩⟩))
      · rw [seen_not hn] at hk
        cases hk
      · refine w_nil ?_
        refine w_setD hr.units (v_pure p_bl (v_pure (p_var (i := 1) rfl (.inl rfl) rfl) ⟨l, rfl, v_pure (p_tup (pl_cons (p_ixT (p_var (i := 2) rfl (.inl rfl) rfl) p_int rfl) (pl_cons (p_ixT (p_var (i := 2) rfl (.inl rfl) rfl) p_int rfl) pl_nil))) ⟨keyR r, _, [], keyR_eq r, List.Perm.refl _, ?_, ?_⟩⟩))
        · unfold seenD
          rw [List.length_map, List.length_take, sizeLine_eq]
          omega
        · refine w_nil ⟨_, rfl, ?_⟩
          rw [seen_put hn, take_get hr']
          rfl
    · rintro Γ Ω ⟨x, rfl, rfl⟩
      exact w_nil rfl
theorem ok_check_start  (d : DefK K mg "check_start" s_check_start ["start", "heads"])  : OkF P w K mg base CX0 2 "check_start" ["start", "heads"] (spP K 2 C_start) := by
  refine ok_pure d sc_check_start rfl fun f cdv A outer s H E hr ds r hC B hB => ?_
  obtain ⟨x, hs, rfl, rfl, hx⟩ := hC
  refine w_if (t_cmp (c_notIn hr.units (p_var (i := 0) rfl (.inl rfl) rfl) (p_var (i := 1) rfl (.inl rfl) rfl) (.inl rfl) ?_)) ?_ ?_
  · exact strs_kin
  · intro hk
    rw [in_strs, decide_eq_true hx] at hk
    cases hk
  · intro _
    exact w_nil (w_nil rfl)
theorem ok_check_sums (g_NOUGHT : GlobD K mg "NOUGHT" (sh 0)) (g_ONE : GlobD K mg "ONE" (sh 1)) (d : DefK K mg "check_sums" s_check_sums ["heads", "rules"]) (o_added : OkF P w K mg base CX0 33 "added" ["one", "other"] (spP K 2 C_added)) : OkF P w K mg base CX0 34 "check_sums" ["heads", "rules"] (spP K 2 C_sums) := by
  refine ok_pure d sc_check_sums rfl fun f cdv A outer s H E hr ds r hC B hB => ?_
  obtain ⟨hs, rs, rfl, rfl, h1, h2, h3⟩ := hC
  refine w_for PassesOwn.never rfl (i_list (p_var (i := 0) rfl (.inl rfl) rfl)) (fun i Γ Ω => ∃ x2 x3 x4, Γ = [some (.lst (strsD hs)), some (.lst (rulesD rs)), x2, x3, x4] ∧ Ω = []) ⟨_, _, _, rfl, rfl⟩ ?_ ?_
  · rintro i d Γ Ω hd ⟨x2, x3, x4, rfl, rfl⟩
    obtain ⟨h, hh, rfl⟩ := strsD_get hd
    refine ⟨_, (g_name (i := 2) sc_check_sums.nd rfl (.inl rfl)), ?_⟩
    refine w_set (i := 3) sc_check_sums.nd rfl (.inl rfl) (p_globD g_NOUGHT rfl) ?_
    refine w_for PassesOwn.never rfl (i_list (p_var (i := 1) rfl (.inl rfl) rfl)) (fun j Γ Ω => ∃ (t : Rat) (x4 : Option D), (0 ≤ t ∧ Sz (1 + j * 1001) t) ∧ t = sumOf h (rs.take j) ∧ Γ = [some (.lst (strsD hs)), some (.lst (rulesD rs)), some (.str h), some (sh t), x4] ∧ Ω = []) ⟨0, _, ⟨by decide, sz_0⟩, rfl, rfl, rfl⟩ ?_ ?_
    · rintro j d Γ Ω hd ⟨t, x4, ht, et, rfl, rfl⟩
      obtain ⟨r, hr', rfl⟩ := rulesD_get hd
      have hj : j < rs.length := (List.getElem?_eq_some_iff.mp hr').1
      have hq := h3 r (List.mem_of_getElem? hr')
      have ef : sumOf h (rs.take (j + 1)) = addIf h t r := by rw [take_get hr']; unfold sumOf at et ⊢; rw [List.foldl_append, ← et]; rfl
      have ht' := sz_sumI ht hq
      refine ⟨_, (g_name (i := 4) sc_check_sums.nd rfl (.inl rfl)), ?_⟩
      refine w_if (t_cmp (c_eqS (p_ixT (p_var (i := 4) rfl (.inl rfl) rfl) p_int rfl) (p_var (i := 2) rfl (.inl rfl) rfl))) ?_ ?_
      · intro hk
        have hk := of_decide_eq_true hk
        refine w_set (i := 3) sc_check_sums.nd rfl (.inl rfl) (p_call (d := sh (t + r.2.2)) o_added (hr.mono (by decide)) rfl (pl_cons (p_var (i := 3) rfl (.inl rfl) rfl) (pl_cons (p_ixT (p_var (i := 4) rfl (.inl rfl) rfl) p_int rfl) pl_nil)) ?_) ?_
        · exact ⟨t, r.2.2, 1 + j * 1001, 1000, rfl, rfl, ht.1, hq.1, ht.2, hq.2, by have : big = 67108864 := rfl; omega, by decide, trivial⟩
        exact w_nil (w_nil ⟨_, _, ht', by rw [ef]; exact (if_pos hk).symm, rfl, rfl⟩)
      · intro hk
        have hk := of_decide_eq_false hk
        exact w_nil (w_nil ⟨t, _, ⟨ht.1, ht.2.mono (by omega)⟩, by rw [ef]; exact (if_neg hk).symm, rfl, rfl⟩)
    · rintro Γ Ω ⟨t, x4, ht, et, rfl, rfl⟩
      rw [rulesD_len, List.take_length, h2 h (List.mem_of_getElem? hh)] at et
      subst et
      refine w_if (t_cmp (c_ne hr.units (p_var (i := 3) rfl (.inl rfl) rfl) (p_globD g_ONE rfl) kin_sh dep_sh)) ?_ ?_
      · intro hk
        rw [beq_sh] at hk
        simp at hk
      · intro _
        exact w_nil (w_nil ⟨_, _, _, rfl, rfl⟩)
  · rintro Γ Ω ⟨x2, x3, x4, rfl, rfl⟩
    exact w_nil rfl
theorem ok_heads_of  (d : DefK K mg "heads_of" s_heads_of ["rules"])  : OkF P w K mg base CX0 2 "heads_of" ["rules"] (spP K 1 C_heads) := by
  refine ok_pure d sc_heads_of rfl fun f cdv A outer s H E hr ds r hC B hB => ?_
  obtain ⟨rs, rfl, rfl, h1⟩ := hC
  refine w_own (i := 1) sc_heads_of.nd rfl (.inl rfl) (pf_lst pl_nil) fun l => ?_
  refine w_for PassesOwn.never rfl (i_list (p_var (i := 0) rfl (.inl rfl) rfl)) (fun i Γ Ω => ∃ (acc : List Str) (x : Option D), acc = (rs.take i).foldl addHead [] ∧ acc.length ≤ i ∧ Γ = [some (.lst (rulesD rs)), some (.raw (.ref l)), x] ∧ Ω = [(l, oLst K (strsD acc))]) ⟨[], _, rfl, Nat.le_refl _, rfl, rfl⟩ ?_ ?_
  · rintro i d Γ Ω hd ⟨acc, x, ea, la, rfl, rfl⟩
    obtain ⟨r, hr', rfl⟩ := rulesD_get hd
    have hi : i < rs.length := (List.getElem?_eq_some_iff.mp hr').1
    have en : (rs.take (i + 1)).foldl addHead [] = addHead acc r := by rw [take_get hr', List.foldl_append, ← ea]; rfl
    refine ⟨_, (g_name (i := 2) sc_heads_of.nd rfl (.inl rfl)), ?_⟩
    refine w_ifV (vt_lend (Γ' := [some (.lst (rulesD rs)), some (.lst (strsD acc)), some (ruleD r)]) (t_cmp (c_notIn hr.units (p_ixT (p_var (i := 2) rfl (.inl rfl) rfl) p_int rfl) (p_var (i := 1) rfl (.inl rfl) rfl) (.inl rfl) ?_)) (lent_set (i := 1) lent_refl rfl (List.mem_singleton.mpr rfl) lends_lst) ⟨fun hk => ?_, fun hk => ?_⟩)
    · exact strs_kin
    · rw [in_strs] at hk
      have hn : r.1 ∉ acc := by simpa using hk
      refine w_append (i := 1) rfl (.inl rfl) rfl (p_ixT (p_var (i := 2) rfl (.inl rfl) rfl) p_int rfl) (by rw [strsD_len, sizeLine_eq]; omega) ?_
      refine w_nil (w_nil ⟨acc ++ [r.1], _, ?_, ?_, rfl, ?_⟩)
      · rw [en]; exact (if_neg hn).symm
      · rw [List.length_append]; exact Nat.succ_le_succ la
      · unfold strsD; rw [List.map_append]; rfl
    · rw [in_strs] at hk
      have hn : r.1 ∈ acc := by simpa using hk
      exact w_nil (w_nil ⟨acc, _, by rw [en]; exact (if_pos hn).symm, by omega, rfl, rfl⟩)
  · rintro Γ Ω ⟨acc, x, ea, la, rfl, rfl⟩
    rw [rulesD_len, List.take_length] at ea
    refine w_freeze (i := 1) rfl ?_
    refine w_ret (p_var (i := 1) rfl (.inl rfl) rfl) ?_
    rw [ea]
    rfl
theorem ok_is_live_body (z : Zs mg) (d : DefK K mg "is_live_body" s_is_live_body ["body", "heads", "live"])  : OkF P w K mg base CX0 2 "is_live_body" ["body", "heads", "live"] (spP K 3 C_liveBody) := by
  refine ok_pure d sc_is_live_body rfl fun f cdv A outer s H E hr ds r hC B hB => ?_
  obtain ⟨b, hs, L, rfl, rfl, h1⟩ := hC
  refine w_ret (p_all rfl z.all rfl (PF3.p (pf_comp (SX := defScope s_is_live_body) (XN := ["body", "heads", "live"]) (N := ["symbol", "heads", "live"]) (nt := 1) (caps := [1, 2]) (pre := (fun i => ((b.take i).map fun x => decide (x ∈ L) || !decide (x ∈ hs)).map D.bl)) ⟨rfl, by decide +kernel, by decide +kernel, by decide +kernel, rfl, by decide +kernel⟩ (i_tup (p_var (i := 0) rfl (.inl rfl) rfl)) ?_ ?_ ?_))) ?_
  · intro i hi
    rw [List.length_map, List.length_map, List.length_take, sizeLine_eq]
    omega
  · rfl
  · intro c i d hd
    obtain ⟨x, hx, rfl⟩ := strsD_get hd
    refine ⟨_, (g_name (i := 0) (show List.Nodup (α := Str) ["symbol", "heads", "live"] by decide +kernel) rfl (.inl rfl)), (Sub.set rfl), .inl ⟨.bl (decide (x ∈ L) || !decide (x ∈ hs)), ts_nil, (p_eq (p_or (p_cmp (c_in hr.units (p_var (i := 0) rfl (.inl rfl) rfl) (p_var (i := 2) rfl (.inr (.inl rfl)) rfl) (.inl rfl) ?_)) fun _ => (p_one (p_cmp (c_notIn hr.units (p_var (i := 0) rfl (.inl rfl) rfl) (p_var (i := 1) rfl (.inr (.inl rfl)) rfl) (.inl rfl) ?_)))) ?_), ?_⟩⟩
    · exact strs_kin
    · exact strs_kin
    · rw [in_strs, in_strs]
    · dsimp only; rw [take_get hx, List.map_append, List.map_append]; rfl
  · rw [show (b.map D.str).length = b.length from List.length_map _, List.take_length]
    show D.bl ((b.map fun x => decide (x ∈ L) || !decide (x ∈ hs)).all id) = D.bl (okBody hs L b)
    rw [List.all_map]
    rfl
theorem ok_has_live_body (z : Zs mg) (d : DefK K mg "has_live_body" s_has_live_body ["head", "rules", "heads", "live"]) (o_is_live_body : OkF P w K mg base CX0 2 "is_live_body" ["body", "heads", "live"] (spP K 3 C_liveBody)) : OkF P w K mg base CX0 3 "has_live_body" ["head", "rules", "heads", "live"] (spP K 4 C_hasLive) := by
  refine ok_pure d sc_has_live_body rfl fun f cdv A outer s H E hr ds r hC B hB => ?_
  obtain ⟨h, rs, hs, L, rfl, rfl, h1, h2⟩ := hC
  refine w_ret (p_any rfl z.any rfl (PF3.p (pf_comp (SX := defScope s_has_live_body) (XN := ["head", "rules", "heads", "live"]) (N := ["rule", "head", "heads", "live"]) (nt := 1) (caps := [0, 2, 3]) (pre := (fun i => ((rs.take i).map fun r => decide (r.1 = h) && okBody hs L r.2.1).map D.bl)) ⟨rfl, by decide +kernel, by decide +kernel, by decide +kernel, rfl, by decide +kernel⟩ (i_list (p_var (i := 1) rfl (.inl rfl) rfl)) ?_ ?_ ?_))) ?_
  · intro i hi
    rw [List.length_map, List.length_map, List.length_take, sizeLine_eq]
    omega
  · rfl
  · intro c i d hd
    obtain ⟨r, hr', rfl⟩ := rulesD_get hd
    refine ⟨_, (g_name (i := 0) (show List.Nodup (α := Str) ["rule", "head", "heads", "live"] by decide +kernel) rfl (.inl rfl)), (Sub.set rfl), .inl ⟨.bl (decide (r.1 = h) && okBody hs L r.2.1), ts_nil, (p_and (p_cmp (c_eqS (p_ixT (p_var (i := 0) rfl (.inl rfl) rfl) p_int rfl) (p_var (i := 1) rfl (.inr (.inl rfl)) rfl))) fun _ => (p_one (p_call (d := .bl (okBody hs L r.2.1)) o_is_live_body (hr.mono (by decide)) rfl (pl_cons (p_ixT (p_var (i := 0) rfl (.inl rfl) rfl) p_int rfl) (pl_cons (p_var (i := 2) rfl (.inr (.inl rfl)) rfl) (pl_cons (p_var (i := 3) rfl (.inr (.inl rfl)) rfl) pl_nil))) ?_))), ?_⟩⟩
    · exact ⟨r.2.1, hs, L, rfl, rfl, h2 r (List.mem_of_getElem? hr')⟩
    · dsimp only; rw [take_get hr', List.map_append, List.map_append]; rfl
  · rw [rulesD_len, List.take_length]
    show D.bl ((rs.map fun r => decide (r.1 = h) && okBody hs L r.2.1).any id) = D.bl (hasBody rs hs L h)
    rw [List.any_map]
    rfl
theorem ok_live_of (z : Zs mg) (d : DefK K mg "live_of" s_live_of ["heads", "rules"]) (o_has_live_body : OkF P w K mg base CX0 3 "has_live_body" ["head", "rules", "heads", "live"] (spP K 4 C_hasLive)) : OkF P w K mg base CX0 4 "live_of" ["heads", "rules"] (spP K 2 C_liveOf) := by
  refine ok_pure d sc_live_of rfl fun f cdv A outer s H E hr ds r hC B hB => ?_
  obtain ⟨hs, rs, rfl, rfl, h1, h2, h3, h4⟩ := hC
  refine w_set (i := 2) sc_live_of.nd rfl (.inr rfl) (p_lst pl_nil) ?_
  refine w_set (i := 3) sc_live_of.nd rfl (.inl rfl) p_bl ?_
  refine w_while PassesOwn.never (fun Γ _ => ∃ (L : List Str) (b : Bool) (x : Option D), Γ = [some (.lst (strsD hs)), some (.lst (rulesD rs)), some (.lst (strsD L)), some (.bl b), x] ∧ ((b = true ∧ Stage hs rs L) ∨ (b = false ∧ L = liveL hs rs))) (fun Γ _ => match Γ with | [_, _, some (.lst ds), some (.bl b), _] => if b then hs.length + 1 - ds.length else 0 | _ => 0) ⟨[], true, none, rfl, .inl ⟨rfl, stage_nil⟩⟩ ?_
  rintro Γ Ω ⟨L, b, x, rfl, hb⟩
  refine ⟨_, (t_val (p_var (i := 3) rfl (.inl rfl) rfl)), fun hk => ?_, fun hk => ?_⟩
  · obtain ⟨rfl, st⟩ : b = true ∧ Stage hs rs L := hb.resolve_right fun h => by rw [h.1] at hk; cases hk
    refine w_setC (i := 4) (SX := defScope s_live_of) (XN := ["heads", "rules", "live", "grown", "found"]) (N := ["head", "heads", "rules", "live"]) (nt := 1) (caps := [0, 1, 2]) (pre := (fun i => strsD ((hs.take i).filter (hasBody rs hs L))))  ⟨rfl, by decide +kernel, by decide +kernel, by decide +kernel, rfl, by decide +kernel⟩ sc_live_of.nd rfl (.inl rfl)  (i_list (p_var (i := 0) rfl (.inr (.inl rfl)) rfl)) ?_ ?_ ?_ ?_
    · intro i hi
      rw [strsD_len, sizeLine_eq]
      have := List.length_filter_le (hasBody rs hs L) (hs.take i)
      rw [List.length_take] at this
      omega
    · rfl
    · intro c i d hd
      obtain ⟨h, hh, rfl⟩ := strsD_get hd
      cases q : hasBody rs hs L h with
      | true =>
        refine ⟨_, (g_name (i := 0) (show List.Nodup (α := Str) ["head", "heads", "rules", "live"] by decide +kernel) rfl (.inl rfl)), (Sub.set rfl), .inl ⟨.str h, (ts_one (t_val (p_call (d := .bl true) o_has_live_body (hr.mono (by decide)) rfl (pl_cons (p_var (i := 0) rfl (.inl rfl) rfl) (pl_cons (p_var (i := 2) rfl (.inr (.inl rfl)) rfl) (pl_cons (p_var (i := 1) rfl (.inr (.inl rfl)) rfl) (pl_cons (p_var (i := 3) rfl (.inr (.inl rfl)) rfl) pl_nil)))) ?_))), (p_var (i := 0) rfl (.inl rfl) rfl), ?_⟩⟩
        · exact ⟨h, rs, hs, L, rfl, by rw [q], h1, h4⟩
        · show strsD ((hs.take (i + 1)).filter (hasBody rs hs L)) = strsD ((hs.take i).filter (hasBody rs hs L)) ++ [D.str h]
          rw [take_get hh, List.filter_append, List.filter_cons_of_pos q]
          unfold strsD
          rw [List.map_append]
          rfl
      | false =>
        refine ⟨_, (g_name (i := 0) (show List.Nodup (α := Str) ["head", "heads", "rules", "live"] by decide +kernel) rfl (.inl rfl)), (Sub.set rfl), .inr ⟨(ts_one (t_val (p_call (d := .bl false) o_has_live_body (hr.mono (by decide)) rfl (pl_cons (p_var (i := 0) rfl (.inl rfl) rfl) (pl_cons (p_var (i := 2) rfl (.inr (.inl rfl)) rfl) (pl_cons (p_var (i := 1) rfl (.inr (.inl rfl)) rfl) (pl_cons (p_var (i := 3) rfl (.inr (.inl rfl)) rfl) pl_nil)))) ?_))), ?_⟩⟩
        · exact ⟨h, rs, hs, L, rfl, by rw [q], h1, h4⟩
        · show strsD ((hs.take (i + 1)).filter (hasBody rs hs L)) = strsD ((hs.take i).filter (hasBody rs hs L))
          rw [take_get hh, List.filter_append, List.filter_cons_of_neg (by simp [q])]
          simp
    rw [strsD_len, List.take_length]
    refine w_set (i := 3) sc_live_of.nd rfl (.inl rfl) (p_cmp (c_gt (p_lenL z.len rfl (p_var (i := 4) rfl (.inl rfl) rfl)) (p_lenL z.len rfl (p_var (i := 2) rfl (.inr (.inl rfl)) rfl)))) ?_
    refine w_set (i := 2) sc_live_of.nd rfl (.inr rfl) (p_var (i := 4) rfl (.inl rfl) rfl) ?_
    rw [strsD_len, strsD_len]
    show W3 _ B [] [some (.lst (strsD hs)), some (.lst (rulesD rs)), some (.lst (strsD (stepL hs rs L))), some (.bl (decide (((L.length : Nat) : Int) < ((stepL hs rs L).length : Nat)))), some (.lst (strsD (stepL hs rs L)))] Ω _
    have le := stage_le st
    have lh : (stepL hs rs L).length ≤ hs.length := List.length_filter_le _ _
    by_cases g : L.length < (stepL hs rs L).length
    · rw [decide_eq_true (by omega)]
      refine w_nil ⟨⟨_, true, _, rfl, .inl ⟨rfl, stage_step st⟩⟩, ?_⟩
      show (if true = true then hs.length + 1 - (strsD (stepL hs rs L)).length else 0) < if true = true then hs.length + 1 - (strsD L).length else 0
      rw [if_pos rfl, if_pos rfl, strsD_len, strsD_len]
      omega
    · rw [decide_eq_false (by omega)]
      refine w_nil ⟨⟨_, false, _, rfl, .inr ⟨rfl, stage_end st (by omega) h3⟩⟩, ?_⟩
      show (if false = true then hs.length + 1 - (strsD (stepL hs rs L)).length else 0) < if true = true then hs.length + 1 - (strsD L).length else 0
      rw [if_neg Bool.false_ne_true, if_pos rfl, strsD_len]
      omega
  · obtain ⟨_, rfl⟩ : b = false ∧ L = liveL hs rs := hb.resolve_left fun h => by rw [h.1] at hk; cases hk
    refine w_ret (p_var (i := 2) rfl (.inr (.inl rfl)) rfl) ?_
    rfl
end
end Law
set_option Elab.async false
set_option linter.all false
set_option maxRecDepth 100000
set_option maxHeartbeats 4000000
namespace Law
open PySem L2 L3
section
variable {P : Program} {w : World} {K : PySem.W.Frag} {mg : Str → Option Value} {base : Heap} {C_Grammar : Addr}
theorem ok_Grammar (z : Zs mg) (c_Grammar : ClsG K C_Grammar) (d : InitK K mg "Grammar" C_Grammar "Grammar.__init__" s_Grammar___init__ ["self", "start", "rules"]) (o_check_rules : OkF P w K mg base CX0 6 "check_rules" ["rules"] (spP K 1 C_rules)) (o_heads_of : OkF P w K mg base CX0 2 "heads_of" ["rules"] (spP K 1 C_heads)) (o_check_start : OkF P w K mg base CX0 2 "check_start" ["start", "heads"] (spP K 2 C_start)) (o_check_sums : OkF P w K mg base CX0 34 "check_sums" ["heads", "rules"] (spP K 2 C_sums)) (o_live_of : OkF P w K mg base CX0 4 "live_of" ["heads", "rules"] (spP K 2 C_liveOf)) : OkI P w K mg base CX0 36 "Grammar" C_Grammar ["self", "start", "rules"] (spI K 3 C_Grammar C_makes) := by
  refine oi_init d sc_Grammar___init__ rfl fun f cdv A outer s H E hr a ds r hC B hB => ?_
  obtain ⟨st, rs, rfl, rfl, gv⟩ := hC
  have l2 := gv.l2
  have fl := firsts_len (rs := rs)
  refine w_expr (p_call (d := .non) o_check_rules (hr.mono (by decide)) rfl (pl_cons (p_var (i := 2) rfl (.inl rfl) rfl) pl_nil) ?_) ?_
  · exact ⟨rs, rfl, rfl, gv.l1, gv.l2, gv.ok, gv.nd⟩
  refine w_setF (a := a) (p_var (i := 0) rfl (.inl rfl) rfl) c_Grammar.c c_Grammar.n_first (v_pure (p_var (i := 1) rfl (.inl rfl) rfl) ⟨[], [], [], List.Perm.refl _, by simp, by decide, ?_⟩)
  refine w_setF (a := a) (p_var (i := 0) rfl (.inl rfl) rfl) c_Grammar.c c_Grammar.n_kept_rules (v_pure (PF3.p (pf_list z.list rfl (p_var (i := 2) rfl (.inl rfl) rfl) (.inl rfl))) ⟨_, _, [], List.Perm.refl _, by decide, by decide, ?_⟩)
  refine w_setF (a := a) (p_var (i := 0) rfl (.inl rfl) rfl) c_Grammar.c c_Grammar.n_kept_heads (v_pure (p_call (d := .lst (strsD (firsts rs))) o_heads_of (hr.mono (by decide)) rfl (pl_cons (p_var (i := 2) rfl (.inl rfl) rfl) pl_nil) ⟨rs, rfl, rfl, gv.l2⟩) ⟨_, _, [], List.Perm.refl _, by decide, by decide, ?_⟩)
  refine w_exprV (v_lend (L := true) (d := .non) (Γ' := [some (.obj C_Grammar ["first", "kept_rules", "kept_heads"] [.str st, .lst (rulesD rs), .lst (strsD (firsts rs))]), some (.str st), some (.lst (rulesD rs))]) (p_call o_check_start (hr.mono (by decide)) rfl (pl_cons (p_var (i := 1) rfl (.inl rfl) rfl) (pl_cons (p_fld (p_var (i := 0) rfl (.inl rfl) rfl) c_Grammar.c c_Grammar.n_kept_heads rfl) pl_nil)) ⟨st, firsts rs, rfl, rfl, gv.st⟩) (lent_set (i := 0) lent_refl rfl (List.mem_singleton.mpr rfl) lends_ins) (hard_cons hard_ins hard_nil) rfl ?_)
  refine w_exprV (v_lend (L := true) (d := .non) (Γ' := [some (.obj C_Grammar ["first", "kept_rules", "kept_heads"] [.str st, .lst (rulesD rs), .lst (strsD (firsts rs))]), some (.str st), some (.lst (rulesD rs))]) (p_call o_check_sums (hr.mono (by decide)) rfl (pl_cons (p_fld (p_var (i := 0) rfl (.inl rfl) rfl) c_Grammar.c c_Grammar.n_kept_heads rfl) (pl_cons (p_var (i := 2) rfl (.inl rfl) rfl) pl_nil)) ⟨firsts rs, rs, rfl, rfl, gv.l2, gv.one, fun r hr' => ⟨Rat.le_of_lt (gv.ok r hr').2.2.2.2, gv.sz r hr'⟩⟩) (lent_set (i := 0) lent_refl rfl (List.mem_singleton.mpr rfl) lends_ins) (hard_cons hard_ins hard_nil) rfl ?_)
  refine w_setF (a := a) (p_var (i := 0) rfl (.inl rfl) rfl) c_Grammar.c c_Grammar.n_kept_live (v_lend (L := true) (d := .lst (strsD (liveL (firsts rs) rs))) (Γ' := [some (.obj C_Grammar ["first", "kept_rules", "kept_heads"] [.str st, .lst (rulesD rs), .lst (strsD (firsts rs))]), some (.str st), some (.lst (rulesD rs))]) (p_call o_live_of (hr.mono (by decide)) rfl (pl_cons (p_fld (p_var (i := 0) rfl (.inl rfl) rfl) c_Grammar.c c_Grammar.n_kept_heads rfl) (pl_cons (p_var (i := 2) rfl (.inl rfl) rfl) pl_nil)) ⟨firsts rs, rs, rfl, rfl, gv.l2, by omega, fun r hr' => mem_firsts.mpr (List.mem_map.mpr ⟨r, hr', rfl⟩), fun r hr' => (gv.ok r hr').2.2.1⟩) (lent_set (i := 0) lent_refl rfl (List.mem_singleton.mpr rfl) lends_ins) (hard_cons hard_ins hard_nil) solid_lstrs ⟨_, _, [], List.Perm.refl _, by decide, by decide, ?_⟩)
  exact w_nil rfl
theorem ok_law_share (ht : P.given.tree = none) (d : DefK K mg "_law_share" s_law_share ["_law_top", "_law_bottom"])  : OkF P w K mg base CX0 33 "_law_share" ["_law_top", "_law_bottom"] (spP K 2 C_share) := by
  refine ok_pure d sc_law_share rfl fun f cdv A outer s H E hr ds r hC B hB => ?_
  obtain ⟨t, b, rfl, rfl, h1, h2⟩ := hC
  have py : Pyl (cx0 P w K mg base ["_law_top", "_law_bottom", "_law_one", "_law_other", "_law_rest"] "_law_share" s_law_share f cdv A outer s H E) := (pyl_cx ht rfl rfl hr (Nat.le_refl _)).nox
  have g0 := My.G_pos (a := t) h2
  refine w_set (i := 2) sc_law_share.nd rfl (.inl rfl) (p_var (i := 0) rfl (.inl rfl) rfl) ?_
  refine w_set (i := 3) sc_law_share.nd rfl (.inl rfl) (p_var (i := 1) rfl (.inl rfl) rfl) ?_
  refine w_while PassesOwn.never (fun Γ _ => ∃ (x y : Int) (z : Option D), Γ = [some (.int t), some (.int b), some (.int x), some (.int y), z] ∧ 0 ≤ x ∧ 0 ≤ y ∧ My.G x y = My.G t b) (fun Γ _ => match Γ with | [_, _, _, some (.int y), _] => y.toNat | _ => 0) ⟨t, b, none, rfl, h1, Int.le_of_lt h2, rfl⟩ ?_
  rintro Γ Ω ⟨x, y, z, rfl, hx, hy, hg⟩
  refine ⟨_, (t_cmp (c_gt (p_var (i := 3) rfl (.inl rfl) rfl) p_int)), fun hk => ?_, fun hk => ?_⟩
  · have hk := of_decide_eq_true hk
    refine w_set (i := 4) sc_law_share.nd rfl (.inl rfl) (p_mod (p_var (i := 2) rfl (.inl rfl) rfl) (p_var (i := 3) rfl (.inl rfl) rfl) ?_) ?_
    · exact hk
    refine w_set (i := 2) sc_law_share.nd rfl (.inl rfl) (p_var (i := 3) rfl (.inl rfl) rfl) ?_
    refine w_set (i := 3) sc_law_share.nd rfl (.inl rfl) (p_var (i := 4) rfl (.inl rfl) rfl) ?_
    refine w_nil ⟨⟨y, x % y, _, rfl, hy, (emod_in hk).1, (G_turnE hx hk).trans hg⟩, ?_⟩
    have := emod_in (a := x) hk
    show (x % y).toNat < y.toNat
    omega
  · have hk := of_decide_eq_false hk
    have y0 : y = 0 := by omega
    subst y0
    rw [My.G_end hx] at hg
    subst hg
    refine w_ret (p_tup (pl_cons (p_fdivP py (p_var (i := 0) rfl (.inl rfl) rfl) (p_var (i := 2) rfl (.inl rfl) rfl) ?_) (pl_cons (p_fdivP py (p_var (i := 1) rfl (.inl rfl) rfl) (p_var (i := 2) rfl (.inl rfl) rfl) ?_) pl_nil))) ?_
    · exact g0
    · exact g0
    show D.tup [D.int (t / My.G t b), D.int (b / My.G t b)] = sh (Rat.divInt t b)
    unfold sh
    rw [← My.num_share h2, ← My.den_share h2, Int.fdiv_eq_ediv_of_nonneg _ (Int.le_of_lt g0), Int.fdiv_eq_ediv_of_nonneg _ (Int.le_of_lt g0)]
theorem ok_law_timed  (d : DefK K mg "_law_timed" s_law_timed ["_law_one", "_law_other"]) (o_law_share : OkF P w K mg base CX0 33 "_law_share" ["_law_top", "_law_bottom"] (spP K 2 C_share)) : OkF P w K mg base CX0 34 "_law_timed" ["_law_one", "_law_other"] (spP K 2 C_timed) := by
  refine ok_pure d sc_law_timed rfl fun f cdv A outer s H E hr ds r hC B hB => ?_
  obtain ⟨p, q, m, n, rfl, rfl, hp, hq, s1, s2, l1, l2, -⟩ := hC
  refine w_ret (p_call (d := sh (p * q)) o_law_share (hr.mono (by decide)) rfl (pl_cons (p_mul (p_ixT (p_var (i := 0) rfl (.inl rfl) rfl) p_int rfl) (p_ixT (p_var (i := 1) rfl (.inl rfl) rfl) p_int rfl) ?_) (pl_cons (p_mul (p_ixT (p_var (i := 0) rfl (.inl rfl) rfl) p_int rfl) (p_ixT (p_var (i := 1) rfl (.inl rfl) rfl) p_int rfl) ?_) pl_nil)) ?_) ?_
  · exact fit_nn s1 s2 l1 l2
  · exact fit_dd s1 s2 l1 l2
  · exact ⟨_, _, rfl, by rw [My.q_mul], Int.mul_nonneg (My.q_num_nn hp) (My.q_num_nn hq), dd_pos⟩
  · rfl
theorem ok_law_is_share (z : Zs mg) (d : DefK K mg "_law_is_share" s_law_is_share ["_law_found"]) (o_law_whole : OkF P w K mg base CX0 2 "_law_whole" ["_law_found"] (spP K 1 C_whole)) : OkF P w K mg base CX0 3 "_law_is_share" ["_law_found"] (spP K 1 C_isShare) := by
  refine ok_pure d sc_law_is_share rfl fun f cdv A outer s H E hr ds r hC B hB => ?_
  obtain ⟨q, rfl, rfl, hq⟩ := hC
  refine w_if (PW3.t (tw_or (t_not (t_val (p_isin (k := true) z.isinstance rfl (p_var (i := 0) rfl (.inl rfl) rfl) (p_bltn rfl z.tuple bt_tuple (v := .ty "tuple") rfl) rfl (by rfl) (fun z => nomatch z)))) fun _ => (tw_or1 (t_cmp (c_neI (p_lenT z.len rfl (p_var (i := 0) rfl (.inl rfl) rfl)) p_int))))) ?_ ?_
  · intro h; exact absurd h (by simp)
  · intro _
    refine w_nil ?_
    refine w_ret (p_and (p_call (d := .bl true) o_law_whole (hr.mono (by decide)) rfl (pl_cons (p_ixT (p_var (i := 0) rfl (.inl rfl) rfl) p_int rfl) pl_nil) ?_) fun _ => (p_and (p_call (d := .bl true) o_law_whole (hr.mono (by decide)) rfl (pl_cons (p_ixT (p_var (i := 0) rfl (.inl rfl) rfl) p_int rfl) pl_nil) ?_) fun _ => (p_and (p_cmp (c_ge (p_ixT (p_var (i := 0) rfl (.inl rfl) rfl) p_int rfl) p_int)) fun _ => (p_one (p_cmp (c_ge (p_ixT (p_var (i := 0) rfl (.inl rfl) rfl) p_int rfl) p_int)))))) ?_
    · exact ⟨_, rfl, rfl⟩
    · exact ⟨_, rfl, rfl⟩
    · have n0 := My.q_num_nn hq
      have d0 := My.den_pos' q
      show D.bl (true && (true && (decide (0 ≤ q.num) && decide (1 ≤ (q.den : Int))))) = D.bl true
      rw [decide_eq_true n0, decide_eq_true (show (1 : Int) ≤ q.den by omega)]
      rfl
theorem ok_law_symbols (ht : P.given.tree = none) (z : Zs mg) (d : DefK K mg "_law_symbols" s_law_symbols ["_law_cell", "_law_many"])  : OkF P w K mg base CX0 33 "_law_symbols" ["_law_cell", "_law_many"] (spP K 2 C_symbols) := by
  refine ok_pure d sc_law_symbols rfl fun f cdv A outer s H E hr ds r hC B hB => ?_
  obtain ⟨c, m, rfl, rfl, hm⟩ := hC
  have py : Pyl (cx0 P w K mg base ["_law_cell", "_law_many", "_law_letters", "_law_size", "_law_at", "_law_out", "_law_k", "_law_name", "_law_place", "_law_step"] "_law_symbols" s_law_symbols f cdv A outer s H E) := (pyl_cx ht rfl rfl hr (Nat.le_refl _)).nox
  refine w_set (i := 2) sc_law_symbols.nd rfl (.inl rfl) p_str ?_
  refine w_set (i := 3) sc_law_symbols.nd rfl (.inl rfl) (p_add p_int (p_mod (p_var (i := 0) rfl (.inl rfl) rfl) p_int ?_)) ?_
  · decide
  have p8 : 0 < 1 + c % 8 := by omega
  refine w_set (i := 4) sc_law_symbols.nd rfl (.inl rfl) (p_mod (p_fdivP py (p_var (i := 0) rfl (.inl rfl) rfl) p_int ?_) (p_var (i := 3) rfl (.inl rfl) rfl) ?_) ?_
  · decide
  · exact p8
  refine w_own (i := 5) sc_law_symbols.nd rfl (.inl rfl) (pf_lst pl_nil) fun l => ?_
  refine w_for PassesOwn.never rfl (i_rangeN (n := m) z.range rfl (p_var (i := 1) rfl (.inl rfl) rfl) ?_ ?_) (fun k Γ Ω => ∃ x6 x7 x8 x9, Γ = [some (.int c), some (.int (m : Int)), some (.str letS), some (.int (1 + c % 8)), some (.int (c / 8 % (1 + c % 8))), some (.raw (.ref l)), x6, x7, x8, x9] ∧ Ω = [(l, oLst K (strsD ((List.range k).map (symS c))))]) ?_ ?_ ?_
  · rfl
  · omega
  · exact ⟨_, _, _, _, rfl, rfl⟩
  · rintro k d Γ Ω hd ⟨x6, x7, x8, x9, rfl, rfl⟩
    obtain ⟨hk, rfl⟩ := nums_lt hd
    rw [Nat.zero_add]
    refine ⟨_, (g_name (i := 6) sc_law_symbols.nd rfl (.inl rfl)), ?_⟩
    refine w_set (i := 7) sc_law_symbols.nd rfl (.inl rfl) p_str ?_
    refine w_for PassesOwn.never rfl (i_rangeN (n := szC c) z.range rfl (p_var (i := 3) rfl (.inl rfl) rfl) ?_ ?_) (fun p Γ Ω => ∃ x8 x9, Γ = [some (.int c), some (.int (m : Int)), some (.str letS), some (.int (1 + c % 8)), some (.int (c / 8 % (1 + c % 8))), some (.raw (.ref l)), some (.int (k : Int)), some (.str ⟨(symL c k p).toArray⟩), x8, x9] ∧ Ω = [(l, oLst K (strsD ((List.range k).map (symS c))))]) ?_ ?_ ?_
    · exact (szC_eq c).symm
    · have := szC_in c; omega
    · exact ⟨_, _, rfl, rfl⟩
    · rintro p d Γ Ω hd ⟨x8, x9, rfl, rfl⟩
      obtain ⟨hp, rfl⟩ := nums_lt hd
      rw [Nat.zero_add]
      have hz := szC_in c
      refine ⟨_, (g_name (i := 8) sc_law_symbols.nd rfl (.inl rfl)), ?_⟩
      refine w_set (i := 9) sc_law_symbols.nd rfl (.inl rfl) (p_add (p_mod (p_fdivP py (p_var (i := 0) rfl (.inl rfl) rfl) p_int ?_) p_int ?_) (p_mul p_int (p_var (i := 8) rfl (.inl rfl) rfl) ?_)) ?_
      · decide
      · decide
      · exact mul_small (by omega)
      refine w_if2 (fun Γ Ω => ∃ q : Int, q = (stp c k p : Nat) ∧ Γ = [some (.int c), some (.int (m : Int)), some (.str letS), some (.int (1 + c % 8)), some (.int (c / 8 % (1 + c % 8))), some (.raw (.ref l)), some (.int (k : Int)), some (.str ⟨(symL c k p).toArray⟩), some (.int (p : Int)), some (.int q)] ∧ Ω = [(l, oLst K (strsD ((List.range k).map (symS c))))]) (t_cmp (c_eqI (p_var (i := 8) rfl (.inl rfl) rfl) (p_var (i := 4) rfl (.inl rfl) rfl))) ?_ ?_ ?_
      · intro hk2
        have hk2 := of_decide_eq_true hk2
        refine w_set (i := 9) sc_law_symbols.nd rfl (.inl rfl) (p_add (p_var (i := 9) rfl (.inl rfl) rfl) (p_var (i := 6) rfl (.inl rfl) rfl)) ?_
        refine w_nil ⟨_, ?_, rfl, rfl⟩
        unfold stp
        rw [if_pos (by have := atC_eq c; omega)]
        have := bsC_eq c
        push_cast
        omega
      · intro hk2
        have hk2 := of_decide_eq_false hk2
        refine w_nil ⟨_, ?_, rfl, rfl⟩
        unfold stp
        rw [if_neg (by have := atC_eq c; omega)]
        have := bsC_eq c
        push_cast
        omega
      · rintro Γ Ω ⟨q, hq, rfl, rfl⟩
        refine w_set (i := 7) sc_law_symbols.nd rfl (.inl rfl) (p_catS (p_var (i := 7) rfl (.inl rfl) rfl) (p_ixS (c := lt (stp c k p % 52)) (p_var (i := 2) rfl (.inl rfl) rfl) (p_mod (p_var (i := 9) rfl (.inl rfl) rfl) p_int ?_) ?_ ?_) ?_) ?_
        · decide
        · decide +kernel
        · exact atI_let q hq
        · rw [sizeLine_eq]
          show (symL c k p).toArray.size + 1 ≤ _
          rw [List.size_toArray, symL_len]
          omega
        exact w_nil ⟨_, _, by rw [symL_succ, ← str_snoc]; rfl, rfl⟩
    · rintro Γ Ω ⟨x8, x9, rfl, rfl⟩
      rw [nums_len]
      refine w_append (i := 5) rfl (.inl rfl) rfl (p_var (i := 7) rfl (.inl rfl) rfl) (by rw [strsD_len, List.length_map, List.length_range, sizeLine_eq]; omega) ?_
      refine w_nil ⟨_, _, _, _, rfl, ?_⟩
      rw [List.range_succ, List.map_append]
      unfold strsD
      rw [List.map_append]
      rfl
  · rintro Γ Ω ⟨x6, x7, x8, x9, rfl, rfl⟩
    rw [nums_len]
    refine w_freeze (i := 5) rfl ?_
    refine w_ret (p_var (i := 5) rfl (.inl rfl) rfl) ?_
    rfl
end
end Law
set_option Elab.async false
set_option linter.all false
set_option maxRecDepth 100000
set_option maxHeartbeats 4000000
namespace Law
open PySem L2 L3
section
variable {P : Program} {w : World} {K : PySem.W.Frag} {mg : Str → Option Value} {base : Heap} {C_Grammar : Addr}
theorem ok_law_bodies (z : Zs mg) (d : DefK K mg "_law_bodies" s_law_bodies ["_law_dice_here", "_law_heads", "_law_words_here", "_law_first"]) (o_law_roll : OkF P w K mg base CX0 2 "_law_roll" ["_law_dice_here", "_law_most"] spRoll) :
    OkF P w K mg base CX0 3 "_law_bodies" ["_law_dice_here", "_law_heads", "_law_words_here", "_law_first"] (spD K 4 C0_bodies C_bodies) := by
  refine ok_draws d sc_law_bodies rfl fun f cdv A outer s H E hr a ds hC B => ?_
  obtain ⟨hs, ws, fb, rfl, hw, hl, wl⟩ := hC
  refine w_own (i := 4) sc_law_bodies.nd rfl (.inl rfl) (pf_lst pl_nil) fun lo => ?_
  refine w_forV PassesOwn.never rfl (iv_range1 z.range rfl (v_add (v_pure p_int ⟨_, rfl, v_roll o_law_roll (hr.mono (by decide)) rfl (p_var (i := 0) rfl (.inl rfl) rfl) (by simp) p_int (by decide) (by decide) fun r h1 h2 => ⟨r, rfl, ⟨_, rfl, by omega, by omega, ?_⟩⟩⟩)))
  refine ⟨fun i Γ Ω => ∃ (bs : List (List Str)) (x5 x6 x7 x8 : Option D), bs.length ≤ i ∧ (0 < i → bs ≠ []) ∧ bs.Nodup ∧ (∀ b ∈ bs, BodyOk (hs ++ ws) b) ∧ Γ = [some (.raw (.ref a)), some (.lst (strsD hs)), some (.lst (strsD ws)), some (.bl fb), some (.raw (.ref lo)), x5, x6, x7, x8] ∧ Ω = [(lo, oLst K (bs.map bodyD)), (a, oDice)], ⟨[], _, _, _, _, Nat.le_refl _, fun h => absurd h (by omega), List.nodup_nil, fun b hb => absurd hb (by simp), rfl, rfl⟩, ?_, ?_⟩
  · rintro i d Γ Ω hd ⟨bs, x5, x6, x7, x8, hbl, hb0, hbn, hbo, rfl, rfl⟩
    obtain ⟨hi, rfl⟩ := rng_lt hd
    refine ⟨_, (g_name (i := 5) sc_law_bodies.nd rfl (.inl rfl)), ?_⟩
    refine w_set (i := 6) sc_law_bodies.nd rfl (.inl rfl) (p_tup pl_nil) ?_
    refine w_forV PassesOwn.never rfl (iv_range1 z.range rfl (v_add (v_pure p_int ⟨_, rfl, v_ixL (v_pure (p_lst (pl_cons p_int (pl_cons p_int (pl_cons p_int (pl_cons p_int (pl_cons p_int (pl_cons p_int pl_nil))))))) ⟨_, rfl, v_roll o_law_roll (hr.mono (by decide)) rfl (p_var (i := 0) rfl (.inl rfl) rfl) (by simp) p_int (by decide) (by decide) fun r2 g1 g2 => ?_⟩)⟩)))
    obtain ⟨w2, w0, w3, hw2⟩ := sizes6 g1 g2
    refine ⟨r2, _, rfl, hw2, w2, rfl, ⟨_, rfl, by omega, by omega, ?_⟩⟩
    refine ⟨fun j Γ Ω => ∃ (b : List Str) (x7 x8 : Option D), b.length = j ∧ (∀ x ∈ b, x ∈ hs ++ ws) ∧ Γ = [some (.raw (.ref a)), some (.lst (strsD hs)), some (.lst (strsD ws)), some (.bl fb), some (.raw (.ref lo)), some (.int (i : Int)), some (bodyD b), x7, x8] ∧ Ω = [(lo, oLst K (bs.map bodyD)), (a, oDice)], ⟨[], _, _, rfl, fun x hx => absurd hx (by simp), rfl, rfl⟩, ?_, ?_⟩
    · rintro j d Γ Ω hd ⟨b, x7, x8, hbj, hbx, rfl, rfl⟩
      obtain ⟨hj, rfl⟩ := rng_lt hd
      refine ⟨_, (g_name (i := 7) sc_law_bodies.nd rfl (.inl rfl)), ?_⟩
      refine w_set (i := 8) sc_law_bodies.nd rfl (.inl rfl) (p_cat (p_var (i := 1) rfl (.inl rfl) rfl) (p_var (i := 2) rfl (.inl rfl) rfl) ?_) ?_
      · rw [strsD_len, strsD_len, sizeLine_eq]; omega
      refine w_if2 (fun Γ Ω => ∃ so : List Str, so ≠ [] ∧ so.length ≤ 7 ∧ (∀ x ∈ so, x ∈ hs ++ ws) ∧ Γ = [some (.raw (.ref a)), some (.lst (strsD hs)), some (.lst (strsD ws)), some (.bl fb), some (.raw (.ref lo)), some (.int (i : Int)), some (bodyD b), some (.int (j : Int)), some (.lst (strsD so))] ∧ Ω = [(lo, oLst K (bs.map bodyD)), (a, oDice)]) (PW3.t (tw_and (t_cmp (c_eqI (p_var (i := 5) rfl (.inl rfl) rfl) p_int)) fun _ => (tw_and1 (t_val (p_var (i := 3) rfl (.inl rfl) rfl))))) ?_ ?_ ?_
      · intro _
        refine w_set (i := 8) sc_law_bodies.nd rfl (.inl rfl) (p_var (i := 2) rfl (.inl rfl) rfl) ?_
        exact w_nil ⟨ws, hw, by omega, fun x hx => List.mem_append_right _ hx, rfl, rfl⟩
      · intro _
        refine w_nil ⟨hs ++ ws, by simp [hw], by rw [List.length_append]; omega, fun x hx => hx, ?_, rfl⟩
        rw [show strsD (hs ++ ws) = strsD hs ++ strsD ws by unfold strsD; rw [List.map_append]]
        rfl
      · rintro Γ Ω ⟨so, s0, s1, s2, rfl, rfl⟩
        have sp : 0 < so.length := List.length_pos_iff.mpr s0
        refine w_setV (i := 6) sc_law_bodies.nd rfl (.inl rfl) (v_op op_catT3 (v_pure (p_var (i := 6) rfl (.inl rfl) rfl) (v_tup (vl_cons (v_ixL (v_pure (p_var (i := 8) rfl (.inl rfl) rfl) ⟨_, rfl, v_roll o_law_roll (hr.mono (by decide)) rfl (p_var (i := 0) rfl (.inl rfl) rfl) (by simp) (p_lenL z.len rfl (p_var (i := 8) rfl (.inl rfl) rfl)) (by rw [strsD_len]; omega) (by rw [strsD_len]; omega) fun r3 c1 c2 => ?_⟩))))))
        rw [strsD_len] at c2
        obtain ⟨x, hx, ex⟩ := pick c1 c2
        refine ⟨r3, _, rfl, ex, vl_pure pl_nil ⟨by (simp only [List.length_cons, List.length_nil]; decide), _, catT_read (by rw [List.length_map, hbj, sizeLine_eq]; simp; omega), ?_⟩⟩
        refine w_nil ⟨b ++ [x], some (.int (j : Int)), some (.lst (strsD so)), by rw [List.length_append, hbj]; rfl, fun y hy => ?_, ?_, rfl⟩
        · rcases List.mem_append.mp hy with q | q
          · exact hbx y q
          · rw [List.mem_singleton.mp q]; exact s2 x hx
        · unfold bodyD
          rw [List.map_append]
          rfl
    · rintro Γ Ω ⟨b, x7, x8, hbj, hbx, rfl, rfl⟩
      rw [rng_len] at hbj
      have bo : BodyOk (hs ++ ws) b := ⟨by omega, by omega, hbx⟩
      refine w_ifV (vt_lend (Γ' := [some (.raw (.ref a)), some (.lst (strsD hs)), some (.lst (strsD ws)), some (.bl fb), some (.lst (bs.map bodyD)), some (.int (i : Int)), some (bodyD b), x7, x8]) (t_cmp (c_notIn hr.units (p_var (i := 6) rfl (.inl rfl) rfl) (p_var (i := 4) rfl (.inl rfl) rfl) (.inl rfl) ?_)) (lent_set (i := 4) lent_refl rfl (List.mem_cons_self ..) lends_lst) ⟨fun hk => ?_, fun hk => ?_⟩)
      · exact bodies_kin
      · rw [in_bodies] at hk
        have hn : b ∉ bs := by simpa using hk
        refine w_append (i := 4) rfl (.inl rfl) rfl (p_var (i := 6) rfl (.inl rfl) rfl) (by rw [List.length_map, sizeLine_eq]; omega) ?_
        refine w_nil (w_nil ⟨bs ++ [b], _, _, _, _, by rw [List.length_append]; exact Nat.succ_le_succ hbl, fun _ => by simp, ?_, fun c hc => ?_, rfl, ?_⟩)
        · rw [List.nodup_append]
          exact ⟨hbn, by simp, fun x hx y hy e => hn (by rw [← List.mem_singleton.mp hy, ← e]; exact hx)⟩
        · rcases List.mem_append.mp hc with q | q
          · exact hbo c q
          · rw [List.mem_singleton.mp q]; exact bo
        · rw [List.map_append]
          rfl
      · rw [in_bodies] at hk
        have hn : b ∈ bs := by simpa using hk
        exact w_nil (w_nil ⟨bs, _, _, _, _, by omega, fun _ => List.ne_nil_of_mem hn, hbn, hbo, rfl, rfl⟩)
  · rintro Γ Ω ⟨bs, x5, x6, x7, x8, hbl, hb0, hbn, hbo, rfl, rfl⟩
    rw [rng_len] at hbl hb0
    refine w_freeze (i := 4) rfl ?_
    exact w_ret (p_var (i := 4) rfl (.inl rfl) rfl) ⟨⟨hs, ws, fb, bs, rfl, rfl, hb0 (by omega), by omega, hbn, hbo⟩, rfl⟩
theorem ok_law_rules (z : Zs mg) (d : DefK K mg "_law_rules" s_law_rules ["_law_dice_here", "_law_heads", "_law_words_here"]) (o_law_roll : OkF P w K mg base CX0 2 "_law_roll" ["_law_dice_here", "_law_most"] spRoll) (o_law_bodies : OkF P w K mg base CX0 3 "_law_bodies" ["_law_dice_here", "_law_heads", "_law_words_here", "_law_first"] (spD K 4 C0_bodies C_bodies))
    (o_law_share : OkF P w K mg base CX0 33 "_law_share" ["_law_top", "_law_bottom"] (spP K 2 C_share)) : OkF P w K mg base CX0 34 "_law_rules" ["_law_dice_here", "_law_heads", "_law_words_here"] (spD K 3 C0_lrules C_lrules) := by
  refine ok_draws d sc_law_rules rfl fun f cdv A outer s H E hr a ds hC B => ?_
  obtain ⟨hs, ws, rfl, hw, hl, wl⟩ := hC
  refine w_own (i := 3) sc_law_rules.nd rfl (.inl rfl) (pf_lst pl_nil) fun lo => ?_
  refine w_for PassesOwn.never rfl (i_list (p_var (i := 1) rfl (.inl rfl) rfl)) (fun i Γ Ω => ∃ (ps : List (Str × Grp)) (x4 x5 x6 x7 x8 : Option D), ps.map (·.1) = hs.take i ∧ (∀ p ∈ ps, GrpOk (hs ++ ws) p.2) ∧ Γ = [some (.raw (.ref a)), some (.lst (strsD hs)), some (.lst (strsD ws)), some (.raw (.ref lo)), x4, x5, x6, x7, x8] ∧ Ω = [(lo, oLst K (rulesD (flat ps))), (a, oDice)]) ⟨[], _, _, _, _, _, rfl, fun p hp => absurd hp (by simp), rfl, rfl⟩ ?_ ?_
  · rintro i d Γ Ω hd ⟨ps, x4, x5, x6, x7, x8, hp, hg, rfl, rfl⟩
    obtain ⟨h, hh, rfl⟩ := strsD_get hd
    have hi : i < hs.length := (List.getElem?_eq_some_iff.mp hh).1
    have pl : ps.length ≤ 4 := by have := congrArg List.length hp; rw [List.length_map, List.length_take] at this; omega
    have fl := flat_len (ps := ps) fun p hp => (hg p hp).le
    refine ⟨_, (g_name (i := 4) sc_law_rules.nd rfl (.inl rfl)), ?_⟩
    refine w_setV (i := 5) sc_law_rules.nd rfl (.inl rfl) (v_callD o_law_bodies (hr.mono (by decide)) rfl (p_var (i := 0) rfl (.inr (.inl rfl)) rfl) (by simp) (vl_cons (v_pure (p_var (i := 1) rfl (.inl rfl) rfl) (vl_cons (v_pure (p_var (i := 2) rfl (.inl rfl) rfl) (vl_cons (v_cmp op_gt (v_roll o_law_roll (hr.mono (by decide)) rfl (p_var (i := 0) rfl (.inr (.inl rfl)) rfl) (by simp) p_int (by decide) (by decide) fun r h1 h2 => v_pure p_int ⟨decide (0 < r), cmpI_pure (g := fun i j => decide (j < i)), vl_pure pl_nil ⟨rfl, rfl, ⟨hs, ws, _, rfl, hw, hl, wl⟩, fun d hd => ?_⟩⟩))))))))
    obtain ⟨hs', ws', fb', bs, e1, rfl, hb⟩ := hd
    simp only [List.cons.injEq, D.lst.injEq, and_true] at e1
    obtain ⟨e1, e2, -⟩ := e1
    cases str_map_inj e1
    cases str_map_inj e2
    refine w_setCV (i := 6) (SX := defScope s_law_rules) (XN := ["_law_dice_here", "_law_heads", "_law_words_here", "_law_out", "_law_head", "_law_bodies_here", "_law_weights", "_law_body", "_law_weight"]) (N := ["_law_body", "_law_dice_here"]) (nt := 1) (caps := [0]) ⟨rfl, by decide +kernel, by decide +kernel, by decide +kernel, rfl, by decide +kernel⟩ sc_law_rules.nd rfl (.inl rfl) (iv_pure (i_list (p_var (i := 5) rfl (.inl rfl) rfl)) ?_)
    refine ⟨fun m gs Ω' => m ≤ 3 ∧ ∃ ns : List Int, ns.length = m ∧ gs = ns.map D.int ∧ (∀ x ∈ ns, 1 ≤ x ∧ x ≤ 5) ∧ Ω' = [(lo, oLst K (rulesD (flat ps))), (a, oDice)], ⟨by omega, [], rfl, rfl, fun x hx => absurd hx (by simp), rfl⟩, ?_, ?_, ?_⟩
    · rintro m gs Ω' ⟨hm, ns, hn, rfl, _⟩
      rw [List.length_map, hn, sizeLine_eq]; omega
    · rintro c m d gs Ω' hd ⟨hm, ns, hn, rfl, hx, rfl⟩
      have hm' : m < bs.length := by have := (List.getElem?_eq_some_iff.mp hd).1; rwa [List.length_map] at this
      have hb3 := hb.2.1
      refine ⟨_, (g_name (i := 0) (show List.Nodup (α := Str) ["_law_body", "_law_dice_here"] by decide +kernel) rfl (.inl rfl)), (Sub.set rfl), fun q => v_add (v_pure p_int ⟨_, rfl, v_roll o_law_roll (hr.mono (by decide)) rfl (p_var (i := 1) rfl (.inr (.inl rfl)) rfl) (by simp) p_int (by decide) (by decide) fun r h1 h2 => ⟨r, rfl, _, List.Perm.refl _, by omega, ns ++ [1 + r], by rw [List.length_append, hn]; rfl, by rw [List.map_append]; rfl, fun x hx' => ?_, rfl⟩⟩)⟩
      rcases List.mem_append.mp hx' with y | y
      · exact hx x y
      · rw [List.mem_singleton.mp y]; omega
    · rintro lp gs Ω' ⟨-, ns, hn, rfl, hx, rfl⟩
      rw [List.length_map] at hn
      refine w_freeze (i := 6) rfl ?_
      have gk := grp_ok hb hn hx
      refine w_for PassesOwn.never rfl (i_zip z.zip rfl (p_var (i := 5) rfl (.inl rfl) rfl) (p_var (i := 6) rfl (.inl rfl) rfl)) (fun j Γ Ω => ∃ x7 x8 : Option D, Γ = [some (.raw (.ref a)), some (.lst (strsD hs)), some (.lst (strsD ws)), some (.raw (.ref lo)), some (.str h), some (.lst (bs.map bodyD)), some (.lst (ns.map D.int)), x7, x8] ∧ Ω = [(lo, oLst K (rulesD (flat ps ++ grp h (((bs.zip ns).map fun p => (p.1, Rat.divInt p.2 ns.sum)).take j)))), (a, oDice)]) ⟨_, _, rfl, by simp [grp]⟩ ?_ ?_
      · rintro j d Γ Ω hd ⟨x7, x8, rfl, rfl⟩
        obtain ⟨b, n, hbn, rfl⟩ := zipBN_get hd
        have hj : j < (bs.zip ns).length := (List.getElem?_eq_some_iff.mp hbn).1
        have hnm := hx n (List.of_mem_zip (List.mem_of_getElem? hbn)).2
        have hw0 : 0 < ns.sum := by
          have := sum_ge hx
          have b0 : 0 < bs.length := List.length_pos_iff.mpr hb.1
          omega
        have gl := gk.le
        refine ⟨_, (g_tup rfl (gl_cons (g_name (i := 7) sc_law_rules.nd rfl (.inl rfl)) (gl_cons (g_name (i := 8) sc_law_rules.nd rfl (.inl rfl)) gl_nil))), ?_⟩
        refine w_append (i := 3) rfl (.inl rfl) rfl (p_tup (pl_cons (p_var (i := 4) rfl (.inl rfl) rfl) (pl_cons (p_var (i := 7) rfl (.inl rfl) rfl) (pl_cons (p_call (d := sh (Rat.divInt n ns.sum)) o_law_share (hr.mono (by decide)) rfl (pl_cons (p_var (i := 8) rfl (.inl rfl) rfl) (pl_cons (p_sum rfl z.sum rfl (p_var (i := 6) rfl (.inl rfl) rfl)) pl_nil)) ⟨n, ns.sum, rfl, rfl, by omega, hw0⟩) pl_nil)))) ?_ ?_
        · rw [rulesD_len, List.length_append, sizeLine_eq]
          unfold grp
          rw [List.length_map, List.length_take]
          omega
        · refine w_nil ⟨_, _, rfl, ?_⟩
          rw [take_get (l := (bs.zip ns).map fun p => (p.1, Rat.divInt p.2 ns.sum)) (x := (b, Rat.divInt n ns.sum)) (by rw [List.getElem?_map, hbn]; rfl), rules_snoc]
          rfl
      · rintro Γ Ω ⟨x7, x8, rfl, rfl⟩
        refine w_nil ⟨ps ++ [(h, (bs.zip ns).map fun p => (p.1, Rat.divInt p.2 ns.sum))], _, _, _, _, _, ?_, fun p hp' => ?_, rfl, ?_⟩
        · rw [List.map_append, hp, take_get hh]
          rfl
        · rcases List.mem_append.mp hp' with q | q
          · exact hg p q
          · rw [List.mem_singleton.mp q]; exact gk
        · rw [zipBN_len, List.take_of_length_le (by rw [List.length_map]; exact Nat.le_refl _)]
          unfold flat
          rw [List.flatMap_append]
          simp
  · rintro Γ Ω ⟨ps, x4, x5, x6, x7, x8, hp, hg, rfl, rfl⟩
    rw [strsD_len, List.take_length] at hp
    refine w_freeze (i := 3) rfl ?_
    exact w_ret (p_var (i := 3) rfl (.inl rfl) rfl) ⟨⟨hs, ws, ps, rfl, rfl, hp, hg⟩, rfl⟩
theorem ok_law_made (z : Zs mg) (d : DefK K mg "_law_made" s_law_made ["_law_cell", "_law_other", "_law_most"]) (o_law_symbols : OkF P w K mg base CX0 33 "_law_symbols" ["_law_cell", "_law_many"] (spP K 2 C_symbols)) (o_law_dice : OkF P w K mg base CX0 2 "_law_dice" ["_law_cell"] spDice) (o_law_roll : OkF P w K mg base CX0 2 "_law_roll" ["_law_dice_here", "_law_most"] spRoll)
    (o_law_rules : OkF P w K mg base CX0 34 "_law_rules" ["_law_dice_here", "_law_heads", "_law_words_here"] (spD K 3 C0_lrules C_lrules)) : OkF P w K mg base CX0 35 "_law_made" ["_law_cell", "_law_other", "_law_most"] (spMade K) := by
  refine ok_made d sc_law_made rfl fun f cdv A outer s H E hr c o m h1 h2 B hB => ?_
  refine w_set (i := 3) sc_law_made.nd rfl (.inl rfl) (p_call (d := .lst (strsD ((List.range (m + 3)).map (symS o)))) o_law_symbols (hr.mono (by decide)) rfl (pl_cons (p_var (i := 1) rfl (.inl rfl) rfl) (pl_cons (p_add (p_var (i := 2) rfl (.inl rfl) rfl) p_int) pl_nil)) ?_) ?_
  · exact ⟨o, m + 3, by push_cast; rfl, rfl, by omega⟩
  have sl : ((List.range (m + 3)).map (symS o)).length = m + 3 := by simp
  have nd := syms_nodup (c := o) (n := m + 3) (by omega)
  have sy : ∀ x ∈ (List.range (m + 3)).map (symS o), IsSym x := fun x hx => by
    obtain ⟨k, _, rfl⟩ := List.mem_map.mp hx
    exact sym_is o k
  generalize (List.range (m + 3)).map (symS o) = ss at sl nd sy
  refine w_setV (i := 4) sc_law_made.nd rfl (.inl rfl) (v_dice o_law_dice (hr.mono (by decide)) rfl (p_var (i := 0) rfl (.inl rfl) rfl) fun l => ?_)
  refine w_setV (i := 5) sc_law_made.nd rfl (.inl rfl) (v_cutTo (p_var (i := 3) rfl (.inl rfl) rfl) (v_add (v_pure p_int ⟨_, rfl, v_roll o_law_roll (hr.mono (by decide)) rfl (p_var (i := 4) rfl (.inl rfl) rfl) (by simp) (p_var (i := 2) rfl (.inl rfl) rfl) (by omega) (by omega) fun r g1 g2 => ⟨r, rfl, _, rfl, ?_⟩⟩)))
  obtain ⟨n, rfl⟩ := Int.eq_ofNat_of_zero_le g1
  rw [show (1 : Int) + ((n : Nat) : Int) = ((1 + n : Nat) : Int) by push_cast; rfl, cut_take (by rw [strsD_len]; omega), strs_take]
  refine w_setV (i := 6) sc_law_made.nd rfl (.inl rfl) (v_cutFromTo (p_var (i := 3) rfl (.inl rfl) rfl) (p_var (i := 2) rfl (.inl rfl) rfl) (v_add (v_pure (p_add (p_var (i := 2) rfl (.inl rfl) rfl) p_int) ⟨_, rfl, v_roll o_law_roll (hr.mono (by decide)) rfl (p_var (i := 4) rfl (.inl rfl) rfl) (by simp) p_int (by decide) (by decide) fun r2 g3 g4 => ⟨r2, rfl, _, rfl, ?_⟩⟩)))
  obtain ⟨n2, rfl⟩ := Int.eq_ofNat_of_zero_le g3
  rw [show (m : Int) + 1 + ((n2 : Nat) : Int) = ((m + 1 + n2 : Nat) : Int) by push_cast; rfl, cut_mid (by rw [strsD_len]; omega) (by rw [strsD_len]; omega), strs_drop, strs_take, show m + 1 + n2 - m = 1 + n2 by omega]
  have nd2 : (ss.take (1 + n) ++ (ss.drop m).take (1 + n2)).Nodup := by
    rw [List.nodup_append]
    refine ⟨nd.sublist (List.take_sublist _ _), nd.sublist ((List.take_sublist _ _).trans (List.drop_sublist _ _)), fun x hx y hy e => ?_⟩
    subst e
    have hy' := List.mem_of_mem_take hy
    have hx' : x ∈ ss.take m := (List.take_subset_take_left ss (by omega)) hx
    have nd' := nd
    rw [← List.take_append_drop m ss, List.nodup_append] at nd'
    exact nd'.2.2 x hx' x hy' rfl
  have sy2 : ∀ x ∈ ss.take (1 + n) ++ (ss.drop m).take (1 + n2), IsSym x := fun x hx => by
    rcases List.mem_append.mp hx with q | q
    · exact sy x (List.mem_of_mem_take q)
    · exact sy x (List.mem_of_mem_drop (List.mem_of_mem_take q))
  have l1 : (ss.take (1 + n)).length = 1 + n := by rw [List.length_take, sl]; omega
  have l2 : ((ss.drop m).take (1 + n2)).length = 1 + n2 := by rw [List.length_take, List.length_drop, sl]; omega
  generalize ss.take (1 + n) = hs at nd2 sy2 l1
  generalize (ss.drop m).take (1 + n2) = ws at nd2 sy2 l2
  have h0 : hs ≠ [] := fun e => by rw [e, List.length_nil] at l1; omega
  have w0 : ws ≠ [] := fun e => by rw [e, List.length_nil] at l2; omega
  refine w_retV (v_tup (vl_cons (v_pure (p_var (i := 5) rfl (.inl rfl) rfl) (vl_cons (v_pure (p_var (i := 6) rfl (.inl rfl) rfl) (vl_cons (v_callD o_law_rules (hr.mono (by decide)) rfl (p_var (i := 4) rfl (.inl rfl) rfl) (by simp) (vl_pure (pl_cons (p_var (i := 5) rfl (.inl rfl) rfl) (pl_cons (p_var (i := 6) rfl (.inl rfl) rfl) pl_nil)) ⟨rfl, rfl, ⟨hs, ws, rfl, w0, by omega, by omega⟩, fun d hd => vl_pure pl_nil ⟨by (simp only [List.length_cons, List.length_nil]; decide), ?_⟩⟩))))))))
  obtain ⟨hs', ws', ps, e1, rfl, hp, hg⟩ := hd
  simp only [List.cons.injEq, D.lst.injEq, and_true] at e1
  cases str_map_inj e1.1
  cases str_map_inj e1.2
  exact ⟨hs, ws, flat ps, made_ok nd2 sy2 h0 w0 (by omega) (by omega) hp hg, by omega, rfl⟩
end
end Law
set_option Elab.async false
set_option linter.all false
set_option maxRecDepth 100000
set_option maxHeartbeats 4000000
namespace Law
open PySem L2 L3
section
variable {P : Program} {w : World} {K : PySem.W.Frag} {mg : Str → Option Value} {base : Heap} {C_Grammar : Addr}
theorem ok_law (z : Zs mg) (c_Grammar : ClsG K C_Grammar) {f : Addr} {fd : FuncData} (F : Fun K "law" "law" s_law f fd) (o_law_cell_at : OkF P w K mg base CX0 2 "_law_cell_at" ["_law_script", "_law_k"] (spP K 2 C_cell)) (o_law_made : OkF P w K mg base CX0 35 "_law_made" ["_law_cell", "_law_other", "_law_most"] (spMade K)) (o_law_dice : OkF P w K mg base CX0 2 "_law_dice" ["_law_cell"] spDice) (o_law_roll : OkF P w K mg base CX0 2 "_law_roll" ["_law_dice_here", "_law_most"] spRoll)
    (o_law_tree : ∀ {rs : List Rule}, (∀ q ∈ rs, 1 ≤ q.2.1.length ∧ q.2.1.length ≤ 4) → rs.length ≤ 100 → ∀ n y, y ∈ rs.map (·.1) → OkF P w K mg base CX0 (n + 3) "_law_tree" ["_law_dice_here", "_law_rules_here", "_law_head", "_law_deep"] (spD K 4 (C0_tree rs y n) (C_tree rs y n)))
    (o_Grammar : OkI P w K mg base CX0 36 "Grammar" C_Grammar ["self", "start", "rules"] (spI K 3 C_Grammar C_makes)) (o_is_tree : OkF P w K mg base CX0 3 "is_tree" ["grammar", "thing"] (spP K 2 (C_isTree C_Grammar))) (o_head_of : OkF P w K mg base CX0 3 "head_of" ["grammar", "tree"] (spP K 2 (C_headOf C_Grammar))) (o_words_of : OkF P w K mg base CX0 2 "words_of" ["grammar", "tree"] (spP K 2 (C_wordsOf C_Grammar))) (o_share_of : OkF P w K mg base CX0 35 "share_of" ["grammar", "tree"] (spP K 2 (C_shareOf C_Grammar))) (o_law_is_share : OkF P w K mg base CX0 3 "_law_is_share" ["_law_found"] (spP K 1 C_isShare))
    (o_law_words : ∀ n, OkF P w K mg base CX0 (n + 1) "_law_words" ["_law_tree_here"] (spP K 1 (C_words n))) (o_law_share_of : ∀ n, OkF P w K mg base CX0 (n + 36) "_law_share_of" ["_law_rules_here", "_law_tree_here"] (spP K 2 (C_shT n)))
    (o_law_spoilt : ∀ {rs : List Rule}, (∀ q ∈ rs, 1 ≤ q.2.1.length) → rs.length ≤ 100 → ∀ n (t : Tr) (c : Int), dpt t ≤ n → isNd t = true → (∃ y, isTr rs (toTh t) y = true) → szT (toTh t) ≤ 1000 → OkF P w K mg base CX0 (n + 34) "_law_spoilt" ["_law_rules_here", "_law_tree_here", "_law_cell"] (spR K 3 (fun ds => ds = [.lst (rulesD rs), trD t, .int c]) (fun _ d => ∃ t' : Th, d = thD t' ∧ dpH t' ≤ dpt t + 1 ∧ szT t' ≤ 2 * szT (toTh t) + 2)))
    (o_law_is_tree : ∀ n, OkF P w K mg base CX0 (n + 3) "_law_is_tree" ["_law_rules_here", "_law_symbol", "_law_thing"] (spP K 3 (C_lawIsT n))) : FnOk P w K mg base CX0 43 f fd ["_law_script"] (spLaw3 K) := by
  refine ok_law3 (k := 42) F sc_law fun cdv A outer s H E hr ns hlen B hB => ?_
  refine w_setV (i := 1) sc_law.nd rfl (.inl rfl) (v_made (m := 3) o_law_made (hr.mono (by decide)) rfl (p_call (d := .int (ns.getD 0 0)) o_law_cell_at (hr.mono (by decide)) rfl (pl_cons (p_var (i := 0) rfl (.inl rfl) rfl) (pl_cons p_int pl_nil)) ⟨ns, 0, rfl, rfl⟩) (p_call (d := .int (ns.getD 1 0)) o_law_cell_at (hr.mono (by decide)) rfl (pl_cons (p_var (i := 0) rfl (.inl rfl) rfl) (pl_cons p_int pl_nil)) ⟨ns, 1, rfl, rfl⟩) (p_eq p_int rfl) (by decide) (by decide) fun hs ws rs g hl4 => ?_)
  have hpos := List.length_pos_iff.mpr g.h0
  obtain ⟨h0, hh0⟩ : ∃ h0, hs[0]? = some h0 := ⟨_, List.getElem?_eq_getElem hpos⟩
  have ih : atI (strsD hs) 0 = some (.str h0) := atI_nat (j := 0) (by unfold strsD; rw [List.getElem?_map, hh0]; rfl)
  have rl := g.rl
  have hb : ∀ q ∈ rs, 1 ≤ q.2.1.length ∧ q.2.1.length ≤ 4 := fun q hq => ⟨(g.body q hq).1, (g.body q hq).2.1⟩
  have hsr : ∀ r ∈ rs, 0 ≤ r.2.2 ∧ Sz 5 r.2.2 := fun r hr' => ⟨Rat.le_of_lt (g.pos r hr').1, sz_lt (g.pos r hr').2.1 (g.pos r hr').2.2⟩
  refine w_set (i := 2) sc_law.nd rfl (.inl rfl) (p_ixT (p_var (i := 1) rfl (.inl rfl) rfl) p_int rfl) ?_
  refine w_setV (i := 3) sc_law.nd rfl (.inl rfl) (v_dice o_law_dice (hr.mono (by decide)) rfl (p_call (d := .int (ns.getD 2 0)) o_law_cell_at (hr.mono (by decide)) rfl (pl_cons (p_var (i := 0) rfl (.inl rfl) rfl) (pl_cons p_int pl_nil)) ⟨ns, 2, rfl, rfl⟩) fun a => ?_)
  refine w_setV (i := 4) sc_law.nd rfl (.inl rfl) (v_ixL (v_pure (p_ixT (p_var (i := 1) rfl (.inl rfl) rfl) p_int rfl) ⟨_, rfl, v_roll o_law_roll (hr.mono (by decide)) rfl (p_var (i := 3) rfl (.inl rfl) rfl) (by simp) (p_lenL z.len rfl (p_ixT (p_var (i := 1) rfl (.inl rfl) rfl) p_int rfl)) (by rw [strsD_len]; omega) (by rw [strsD_len]; omega) fun r0 h1 h2 => ?_⟩))
  rw [strsD_len] at h2
  obtain ⟨y, hy, ey⟩ := pick h1 h2
  refine ⟨r0, _, rfl, ey, ?_⟩
  have hyr : y ∈ rs.map (·.1) := by rw [← g.fst] at hy; exact mem_firsts.mp hy
  refine w_setV (i := 5) sc_law.nd rfl (.inl rfl) (v_callD (o_law_tree hb (by omega) 3 y hyr) (hr.mono (by decide)) rfl (p_var (i := 3) rfl (.inl rfl) rfl) (by simp) (vl_cons (v_pure (p_var (i := 2) rfl (.inl rfl) rfl) (vl_cons (v_pure (p_var (i := 4) rfl (.inl rfl) rfl) (vl_cons (v_roll o_law_roll (hr.mono (by decide)) rfl (p_var (i := 3) rfl (.inl rfl) rfl) (by simp) p_int (by decide) (by decide) fun r3 g1 g2 => vl_pure pl_nil ⟨rfl, rfl, ⟨r3.toNat, by omega, by rw [show ((r3.toNat : Nat) : Int) = r3 by omega]⟩, fun d hd => ?_⟩)))))))
  rcases hd with rfl | ⟨t, rfl, tk⟩
  · refine w_if (t_cmp (c_isN (k := true) (p_var (i := 5) rfl (.inl rfl) rfl) p_non (fun F x h => by cases isN h; rfl))) (fun _ => ?_) (fun h => by cases h)
    refine w_ret p_bl ?_
    rfl
  · have tn := tk.nd
    cases t with
    | lf w' => cases tn
    | nd k ts =>
    have dp : dpt (.nd k ts) ≤ 4 := tk.dp
    have sz : szT (toTh (.nd k ts)) ≤ 341 := tk.sz
    obtain ⟨top, q, hq, eq⟩ := isT_top tk.tr
    have inr := isT_inR tk.tr
    have n1 := nds_sz (t := .nd k ts)
    have n2 := wds_sz (t := .nd k ts)
    refine w_if (t_cmp (c_isN (k := false) (p_var (i := 5) rfl (.inl rfl) rfl) p_non (fun F x h => by rw [trD] at h; obtain ⟨_, _, rfl, _, _⟩ := isT h; rfl))) (fun h => by cases h) (fun _ => w_nil ?_)
    refine w_set (i := 6) sc_law.nd rfl (.inl rfl) (p_make (r := (gF, gDs h0 rs)) o_Grammar (hr.mono (by decide)) rfl (pl_cons (p_ixL (d := .str h0) (p_ixT (p_var (i := 1) rfl (.inl rfl) rfl) p_int rfl) p_int ih) (pl_cons (PF3.p (pf_list z.list rfl (p_var (i := 2) rfl (.inl rfl) rfl) (.inl rfl))) pl_nil)) ⟨h0, rs, rfl, rfl, g.gv (List.mem_of_getElem? hh0)⟩) ?_
    refine w_if (PW3.t (tw_or (t_cmp (c_isNotB (p_call (d := .bl true) o_is_tree (hr.mono (by decide)) rfl (pl_cons (p_var (i := 6) rfl (.inl rfl) rfl) (pl_cons (p_var (i := 5) rfl (.inl rfl) rfl) pl_nil)) ⟨h0, rs, toTh (.nd k ts), by rw [thD_to]; rfl, by rw [top], by omega⟩) p_bl)) (fun _ => tw_or1 (t_cmp (c_neS (p_call (d := .str q.1) o_head_of (hr.mono (by decide)) rfl (pl_cons (p_var (i := 6) rfl (.inl rfl) rfl) (pl_cons (p_var (i := 5) rfl (.inl rfl) rfl) pl_nil)) ⟨h0, rs, k, ts, q, rfl, rfl, hq⟩) (p_var (i := 4) rfl (.inl rfl) rfl)))))) (fun h => ?_) (fun _ => w_nil ?_)
    · rw [decide_eq_true eq] at h
      cases h
    refine w_set (i := 7) sc_law.nd rfl (.inl rfl) (p_call (d := bodyD (wds (.nd k ts))) o_words_of (hr.mono (by decide)) rfl (pl_cons (p_var (i := 6) rfl (.inl rfl) rfl) (pl_cons (p_var (i := 5) rfl (.inl rfl) rfl) pl_nil)) ⟨h0, rs, .nd k ts, rfl, rfl, by omega⟩) ?_
    refine w_if (PW3.t (tw_or (t_not (t_val (p_isin (k := true) z.isinstance rfl (p_var (i := 7) rfl (.inl rfl) rfl) (p_bltn rfl z.tuple bt_tuple (v := .ty "tuple") rfl) rfl (by rfl) (fun z => nomatch z)))) (fun _ => tw_or1 (t_cmp (c_ne hr.units (p_var (i := 7) rfl (.inl rfl) rfl) (p_call (d := bodyD (wds (.nd k ts))) (o_law_words 4) (hr.mono (by decide)) rfl (pl_cons (p_var (i := 5) rfl (.inl rfl) rfl) pl_nil) ⟨.nd k ts, rfl, rfl, dp, by omega⟩) kin_body (Nat.le_trans dep_body (by decide))))))) (fun h => ?_) (fun _ => w_nil ?_)
    · rw [beqD_refl pln_body] at h
      cases h
    refine w_set (i := 7) sc_law.nd rfl (.inl rfl) (p_call (d := sh (shT rs (.nd k ts))) o_share_of (hr.mono (by decide)) rfl (pl_cons (p_var (i := 6) rfl (.inl rfl) rfl) (pl_cons (p_var (i := 5) rfl (.inl rfl) rfl) pl_nil)) ⟨h0, rs, .nd k ts, rfl, rfl, rfl, inr, hsr, by omega, by omega⟩) ?_
    have sq := shT_ok hsr inr
    refine w_if (PW3.t (tw_or (t_not (t_val (p_call (d := .bl true) o_law_is_share (hr.mono (by decide)) rfl (pl_cons (p_var (i := 7) rfl (.inl rfl) rfl) pl_nil) ⟨_, rfl, rfl, sq.1⟩))) (fun _ => tw_or1 (t_cmp (c_ne hr.units (p_var (i := 7) rfl (.inl rfl) rfl) (p_call (d := sh (shT rs (.nd k ts))) (o_law_share_of 4) (hr.mono (by decide)) rfl (pl_cons (p_var (i := 2) rfl (.inl rfl) rfl) (pl_cons (p_var (i := 5) rfl (.inl rfl) rfl) pl_nil)) ⟨rs, .nd k ts, rfl, rfl, dp, inr, hsr, by omega, by omega⟩) kin_sh dep_sh))))) (fun h => ?_) (fun _ => w_nil ?_)
    · rw [beqD_refl (by rfl)] at h
      cases h
    refine w_setV (i := 8) sc_law.nd rfl (.inl rfl) (v_callR (o_law_spoilt (fun q hq => (hb q hq).1) (by omega) 4 (.nd k ts) (ns.getD 3 0 % 10 ^ Int.toNat 6) dp rfl ⟨y, tk.tr⟩ (by omega)) (hr.mono (by decide)) rfl (pl_cons (p_var (i := 2) rfl (.inl rfl) rfl) (pl_cons (p_var (i := 5) rfl (.inl rfl) rfl) (pl_cons (p_mod (p_call (d := .int (ns.getD 3 0)) o_law_cell_at (hr.mono (by decide)) rfl (pl_cons (p_var (i := 0) rfl (.inl rfl) rfl) (pl_cons p_int pl_nil)) ⟨ns, 3, rfl, rfl⟩) (p_pow p_int p_int ⟨by decide, by decide, by decide⟩) (by decide)) pl_nil))) rfl fun d hd => ?_)
    obtain ⟨t', rfl, d1, d2⟩ := hd
    refine w_set (i := 9) sc_law.nd rfl (.inl rfl) p_bl ?_
    refine w_for PassesOwn.never rfl (i_list (p_ixT (p_var (i := 1) rfl (.inl rfl) rfl) p_int rfl)) (fun i Γ Ω => ∃ x10, Γ = [some (.scr ns), some (.tup [.lst (strsD hs), .lst (strsD ws), .lst (rulesD rs)]), some (.lst (rulesD rs)), some (.raw (.ref a)), some (.str y), some (trD (.nd k ts)), some (gD C_Grammar h0 rs), some (sh (shT rs (.nd k ts))), some (thD t'), some (.bl ((hs.take i).any fun y => isTr rs t' y)), x10] ∧ Ω = [(a, oDice)]) ⟨none, rfl, rfl⟩ ?_ ?_
    · rintro i d Γ Ω hd ⟨x10, rfl, rfl⟩
      obtain ⟨x, hx, rfl⟩ := strsD_get hd
      refine ⟨_, (g_name (i := 10) sc_law.nd rfl (.inl rfl)), ?_⟩
      refine w_set (i := 9) sc_law.nd rfl (.inl rfl) (p_or (p_var (i := 9) rfl (.inl rfl) rfl) fun _ => p_one (p_call (d := .bl (isTr rs t' x)) (o_law_is_tree 5) (hr.mono (by decide)) rfl (pl_cons (p_var (i := 2) rfl (.inl rfl) rfl) (pl_cons (p_var (i := 10) rfl (.inl rfl) rfl) (pl_cons (p_var (i := 8) rfl (.inl rfl) rfl) pl_nil))) ⟨rs, x, t', rfl, rfl, by omega, by omega⟩)) ?_
      refine w_nil ⟨some (.str x), ?_, rfl⟩
      rw [take_get hx, List.any_append, List.any_cons, List.any_nil, Bool.or_false]
      rfl
    · rintro Γ Ω ⟨x10, rfl, rfl⟩
      rw [strsD_len, List.take_length, any_top g.fst]
      refine w_set (i := 7) sc_law.nd rfl (.inl rfl) (p_call (d := .bl (topT rs t')) o_is_tree (hr.mono (by decide)) rfl (pl_cons (p_var (i := 6) rfl (.inl rfl) rfl) (pl_cons (p_var (i := 8) rfl (.inl rfl) rfl) pl_nil)) ⟨h0, rs, t', rfl, rfl, by omega⟩) ?_
      refine w_ret (p_and (p_isin (k := true) z.isinstance rfl (p_var (i := 7) rfl (.inl rfl) rfl) (p_bltn rfl z.bool bt_bool (v := .ty "bool") rfl) rfl (by rfl) (fun z => nomatch z)) fun _ => p_one (p_cmp (c_eqB (p_var (i := 7) rfl (.inl rfl) rfl) (p_var (i := 9) rfl (.inl rfl) rfl)))) ?_
      show D.bl _ = D.bl true
      simp
theorem law_all (ht : P.given.tree = none) (z : Zs mg) (g_NOUGHT : GlobD K mg "NOUGHT" (sh 0)) (g_ONE : GlobD K mg "ONE" (sh 1)) (g_MOST_RULES : GlobD K mg "MOST_RULES" (.int 30)) (g_MOST_SYMBOLS : GlobD K mg "MOST_SYMBOLS" (.int 4)) (g_MOST_LETTERS : GlobD K mg "MOST_LETTERS" (.int 8)) (c_Grammar : ClsG K C_Grammar) (d_Grammar : InitK K mg "Grammar" C_Grammar "Grammar.__init__" s_Grammar___init__ ["self", "start", "rules"]) (d_Grammar_rules : MethK K C_Grammar "rules" "Grammar.rules" s_Grammar_rules ["self"]) (d_Grammar_heads : MethK K C_Grammar "heads" "Grammar.heads" s_Grammar_heads ["self"]) (d_common_divisor : DefK K mg "common_divisor" s_common_divisor ["one", "other"]) (d_share : DefK K mg "share" s_share ["top", "bottom"]) (d_added : DefK K mg "added" s_added ["one", "other"]) (d_timed : DefK K mg "timed" s_timed ["one", "other"]) (d_check_rules : DefK K mg "check_rules" s_check_rules ["rules"]) (d_check_rule : DefK K mg "check_rule" s_check_rule ["rule"]) (d_check_symbol : DefK K mg "check_symbol" s_check_symbol ["text"]) (d_is_symbol : DefK K mg "is_symbol" s_is_symbol ["text"]) (d_is_letter : DefK K mg "is_letter" s_is_letter ["sign"]) (d_check_start : DefK K mg "check_start" s_check_start ["start", "heads"]) (d_check_sums : DefK K mg "check_sums" s_check_sums ["heads", "rules"]) (d_heads_of : DefK K mg "heads_of" s_heads_of ["rules"]) (d_live_of : DefK K mg "live_of" s_live_of ["heads", "rules"]) (d_has_live_body : DefK K mg "has_live_body" s_has_live_body ["head", "rules", "heads", "live"]) (d_is_live_body : DefK K mg "is_live_body" s_is_live_body ["body", "heads", "live"]) (d_head_of : DefK K mg "head_of" s_head_of ["grammar", "tree"]) (d_words_of : DefK K mg "words_of" s_words_of ["grammar", "tree"]) (d_share_of : DefK K mg "share_of" s_share_of ["grammar", "tree"]) (d_is_tree : DefK K mg "is_tree" s_is_tree ["grammar", "thing"]) (d_fits_rule : DefK K mg "fits_rule" s_fits_rule ["rules", "thing"]) (d_due_parts : DefK K mg "due_parts" s_due_parts ["rules", "thing"]) (d_law_cell_at : DefK K mg "_law_cell_at" s_law_cell_at ["_law_script", "_law_k"]) (d_law_dice : DefK K mg "_law_dice" s_law_dice ["_law_cell"]) (d_law_roll : DefK K mg "_law_roll" s_law_roll ["_law_dice_here", "_law_most"]) (d_law_whole : DefK K mg "_law_whole" s_law_whole ["_law_found"]) (d_law_symbols : DefK K mg "_law_symbols" s_law_symbols ["_law_cell", "_law_many"]) (d_law_share : DefK K mg "_law_share" s_law_share ["_law_top", "_law_bottom"]) (d_law_timed : DefK K mg "_law_timed" s_law_timed ["_law_one", "_law_other"]) (d_law_is_share : DefK K mg "_law_is_share" s_law_is_share ["_law_found"]) (d_law_bodies : DefK K mg "_law_bodies" s_law_bodies ["_law_dice_here", "_law_heads", "_law_words_here", "_law_first"]) (d_law_rules : DefK K mg "_law_rules" s_law_rules ["_law_dice_here", "_law_heads", "_law_words_here"]) (d_law_made : DefK K mg "_law_made" s_law_made ["_law_cell", "_law_other", "_law_most"]) (d_law_tree : DefK K mg "_law_tree" s_law_tree ["_law_dice_here", "_law_rules_here", "_law_head", "_law_deep"]) (d_law_words : DefK K mg "_law_words" s_law_words ["_law_tree_here"]) (d_law_share_of : DefK K mg "_law_share_of" s_law_share_of ["_law_rules_here", "_law_tree_here"]) (d_law_is_tree : DefK K mg "_law_is_tree" s_law_is_tree ["_law_rules_here", "_law_symbol", "_law_thing"]) (d_law_spoilt : DefK K mg "_law_spoilt" s_law_spoilt ["_law_rules_here", "_law_tree_here", "_law_cell"]) {f : Addr} {fd : FuncData} (F : Fun K "law" "law" s_law f fd) : FnOk P w K mg base CX0 43 f fd ["_law_script"] (spLaw3 K) := by
  have q1 := ok_common_divisor (P := P) (w := w) (base := base) d_common_divisor
  have q1s := ok_share ht d_share q1
  have q2 := ok_added ht d_added q1
  have q2t := ok_timed d_timed q1s
  have q3 := ok_is_letter (P := P) (w := w) (base := base) d_is_letter
  have q3b := ok_is_symbol z g_MOST_LETTERS d_is_symbol q3
  have q4 := ok_check_symbol z g_MOST_LETTERS d_check_symbol q3b
  have q5 := ok_check_rule z g_NOUGHT g_MOST_SYMBOLS d_check_rule q4
  have q6 := ok_check_rules z g_MOST_RULES d_check_rules q5
  have q7 := ok_check_start (P := P) (w := w) (base := base) d_check_start
  have q8 := ok_check_sums g_NOUGHT g_ONE d_check_sums q2
  have q9 := ok_heads_of (P := P) (w := w) (base := base) d_heads_of
  have q10 := ok_is_live_body (P := P) (w := w) (base := base) z d_is_live_body
  have q11 := ok_has_live_body z d_has_live_body q10
  have q12 := ok_live_of z d_live_of q11
  have q13 := ok_Grammar z c_Grammar d_Grammar q6 q9 q7 q8 q12
  have q14 := ok_Grammar_rules (P := P) (w := w) (base := base) z c_Grammar d_Grammar_rules
  have q15 := ok_Grammar_heads (P := P) (w := w) (base := base) z c_Grammar d_Grammar_heads
  have t1 := ok_head_of z c_Grammar d_head_of q14
  have t2 := ok_words_of (P := P) (w := w) (base := base) (C_Grammar := C_Grammar) z d_words_of
  have t3 := ok_share_of z c_Grammar g_ONE d_share_of q2t q14
  have t4 := ok_fits_rule (P := P) (w := w) (base := base) z d_fits_rule
  have t5 := ok_due_parts (P := P) (w := w) (base := base) z d_due_parts
  have t6 := ok_is_tree z c_Grammar d_is_tree q14 q15 t4 t5
  have r1 := ok_law_cell_at (P := P) (w := w) (base := base) z d_law_cell_at
  have r2 := ok_law_whole (P := P) (w := w) (base := base) z d_law_whole
  have r3 := ok_law_share (w := w) (base := base) ht d_law_share
  have r4 := ok_law_timed d_law_timed r3
  have r5 := ok_law_is_share z d_law_is_share r2
  have r7 := ok_law_dice (P := P) (w := w) (base := base) d_law_dice
  have r8 := ok_law_roll (P := P) (w := w) (base := base) d_law_roll
  have r9 := ok_law_symbols (w := w) (base := base) ht z d_law_symbols
  have r10 := ok_law_bodies z d_law_bodies r8
  have r11 := ok_law_rules z d_law_rules r8 r10 r3
  have r12 := ok_law_made z d_law_made r9 r7 r8 r11
  have r13 := ok_law_words (P := P) (w := w) (base := base) z d_law_words
  have r14 := ok_law_share_of z d_law_share_of r4
  have r15 := ok_law_is_tree z d_law_is_tree r2
  exact ok_law z c_Grammar F r1 r12 r7 r8 (fun hb hl => ok_law_tree z d_law_tree r8 hb hl) q13 t6 t1 t2 t3 r5 r13 r14 (fun hb hl => ok_law_spoilt ht z d_law_spoilt hb hl) r15
end
end Law
set_option Elab.async false
set_option linter.all false
set_option maxRecDepth 100000
set_option maxHeartbeats 4000000
namespace Law
open PySem L2 L3
end Law
namespace Law
open PySem L2 L3
theorem walk {l : PySem.W.OpenLaw} {q : Program} {loose : List Str} {XP : (Str → Option Value) → Heap → Prop} {YP : World → Heap → Prop} {d : DefRec} {K : Params → PySem.W.Frag} (hn : l.most = some 63) (hi : PyProof.Rows.importsNone q = true) (hdf : d.params.defaults = [])
    (hY : ∀ (w : World) (h : Heap), YP w h → (K w.params).In h)
    (F : ∀ (w : World) (mg : Str → Option Value) (fa : Addr) (h : Heap), (K w.params).In h → h.Ns mainGlobals mg → mg d.name = some (.ref fa) →
      ∃ fd : FuncData, (∀ (s : Shared) (u : Value), BindsTo s fd ⟨[u], []⟩ [("_law_script", u)]) ∧ ∀ base : Heap, (K w.params).In base → base.Ns mainGlobals mg → FnOk l.prog w (K w.params) mg base CX0 43 fa fd ["_law_script"] (spLaw3 (K w.params))) :
    PySem.W.WalkO q loose XP YP l.row.toRowW d [] (fun f vs => PySem.call f vs) :=
  L2.walk_of (n := 63) (k := 43) (x := "_law_script") (CX := fun _ => CX0) (sp := fun w => spLaw3 (K w.params)) hn (by decide) hi hdf ⟨rfl, by decide, by decide⟩ hY F (fun _ _ a ns hl _ hS => sp_law3 hl hS) fun _ _ _ _ _ z => z
end Law
open PySem PySem.W PyProof.Rows
set_option maxRecDepth 100000 in
set_option maxHeartbeats 0 in
theorem PySem.Challenge.cw_scoreflow_k06_trees_holds : PySem.Challenge.rw_scoreflow_k06_trees.Holds := by
  w_on; o_law
  refine PySem.W.holds_open (q := Law.view) (loose := []) (Xt := fun s => PySem.W.xlAt Law.view [] s && PySem.W.recOk [] s) (XP := PySem.W.XL Law.view [])
    (Yf := (PySem.W.kHook Law.KP Law.KA Law.KE).obs) (Ya := (PySem.W.kHook Law.KP Law.KA Law.KE).val) (YP := (PySem.W.kHook Law.KP Law.KA Law.KE).says) (N := 4626) Law.hl (PySem.W.kHook Law.KP Law.KA Law.KE).of (PySem.W.kHook Law.KP Law.KA Law.KE).keeps
    (fun s e => PySem.W.xl_of s (Bool.and_eq_true_iff.mp e).1) PySem.W.XL.keeps (by rfl) (by rfl) (by rfl) (fun s e => PySem.W.recFacts_of (Bool.and_eq_true_iff.mp e).2) ?d4 ?d5 ?d6 ⟨rfl, rfl, rfl, rfl, rfl, by decide +kernel⟩ ?hw ?hc
  case d4 => rfl
  case d5 => first | assumption | decide +kernel
  case d6 => decide +kernel
  case hw => w_witness2
  k_fill
  refine Law.walk (l := PySem.Challenge.rw_scoreflow_k06_trees) rfl ?hi rfl (fun w h Y => PySem.W.kIn_of Y) ?F
  case hi => decide +kernel
  case F =>
    intro w mg fa h KX G hmg
    have d_common_divisor : L2.DefK (L2.KOf KX) mg "common_divisor" Law.s_common_divisor ["one", "other"] := by
      dsimp only [L2.KOf]
      refine' L2.def_mk KX G ["one", "other"] ?a ?l ?c ?k ?b
      (case a => k_is); (case l => k_is); (case c => k_is); (case k => k_is)
      (case b => intro _ _ _ _ _ _ us hl; obtain ⟨_, _, rfl⟩ := L3.len2 hl; rfl)
    have d_share : L2.DefK (L2.KOf KX) mg "share" Law.s_share ["top", "bottom"] := by
      dsimp only [L2.KOf]
      refine' L2.def_mk KX G ["top", "bottom"] ?a ?l ?c ?k ?b
      (case a => k_is); (case l => k_is); (case c => k_is); (case k => k_is)
      (case b => intro _ _ _ _ _ _ us hl; obtain ⟨_, _, rfl⟩ := L3.len2 hl; rfl)
    have d_added : L2.DefK (L2.KOf KX) mg "added" Law.s_added ["one", "other"] := by
      dsimp only [L2.KOf]
      refine' L2.def_mk KX G ["one", "other"] ?a ?l ?c ?k ?b
      (case a => k_is); (case l => k_is); (case c => k_is); (case k => k_is)
      (case b => intro _ _ _ _ _ _ us hl; obtain ⟨_, _, rfl⟩ := L3.len2 hl; rfl)
    have d_timed : L2.DefK (L2.KOf KX) mg "timed" Law.s_timed ["one", "other"] := by
      dsimp only [L2.KOf]
      refine' L2.def_mk KX G ["one", "other"] ?a ?l ?c ?k ?b
      (case a => k_is); (case l => k_is); (case c => k_is); (case k => k_is)
      (case b => intro _ _ _ _ _ _ us hl; obtain ⟨_, _, rfl⟩ := L3.len2 hl; rfl)
    have d_check_rules : L2.DefK (L2.KOf KX) mg "check_rules" Law.s_check_rules ["rules"] := by
      dsimp only [L2.KOf]
      refine' L2.def_mk KX G ["rules"] ?a ?l ?c ?k ?b
      (case a => k_is); (case l => k_is); (case c => k_is); (case k => k_is)
      (case b => intro _ _ _ _ _ _ us hl; obtain ⟨_, rfl⟩ := L3.len1 hl; rfl)
    have d_check_rule : L2.DefK (L2.KOf KX) mg "check_rule" Law.s_check_rule ["rule"] := by
      dsimp only [L2.KOf]
      refine' L2.def_mk KX G ["rule"] ?a ?l ?c ?k ?b
      (case a => k_is); (case l => k_is); (case c => k_is); (case k => k_is)
      (case b => intro _ _ _ _ _ _ us hl; obtain ⟨_, rfl⟩ := L3.len1 hl; rfl)
    have d_check_symbol : L2.DefK (L2.KOf KX) mg "check_symbol" Law.s_check_symbol ["text"] := by
      dsimp only [L2.KOf]
      refine' L2.def_mk KX G ["text"] ?a ?l ?c ?k ?b
      (case a => k_is); (case l => k_is); (case c => k_is); (case k => k_is)
      (case b => intro _ _ _ _ _ _ us hl; obtain ⟨_, rfl⟩ := L3.len1 hl; rfl)
    have d_is_symbol : L2.DefK (L2.KOf KX) mg "is_symbol" Law.s_is_symbol ["text"] := by
      dsimp only [L2.KOf]
      refine' L2.def_mk KX G ["text"] ?a ?l ?c ?k ?b
      (case a => k_is); (case l => k_is); (case c => k_is); (case k => k_is)
      (case b => intro _ _ _ _ _ _ us hl; obtain ⟨_, rfl⟩ := L3.len1 hl; rfl)
    have d_is_letter : L2.DefK (L2.KOf KX) mg "is_letter" Law.s_is_letter ["sign"] := by
      dsimp only [L2.KOf]
      refine' L2.def_mk KX G ["sign"] ?a ?l ?c ?k ?b
      (case a => k_is); (case l => k_is); (case c => k_is); (case k => k_is)
      (case b => intro _ _ _ _ _ _ us hl; obtain ⟨_, rfl⟩ := L3.len1 hl; rfl)
    have d_check_start : L2.DefK (L2.KOf KX) mg "check_start" Law.s_check_start ["start", "heads"] := by
      dsimp only [L2.KOf]
      refine' L2.def_mk KX G ["start", "heads"] ?a ?l ?c ?k ?b
      (case a => k_is); (case l => k_is); (case c => k_is); (case k => k_is)
      (case b => intro _ _ _ _ _ _ us hl; obtain ⟨_, _, rfl⟩ := L3.len2 hl; rfl)
    have d_check_sums : L2.DefK (L2.KOf KX) mg "check_sums" Law.s_check_sums ["heads", "rules"] := by
      dsimp only [L2.KOf]
      refine' L2.def_mk KX G ["heads", "rules"] ?a ?l ?c ?k ?b
      (case a => k_is); (case l => k_is); (case c => k_is); (case k => k_is)
      (case b => intro _ _ _ _ _ _ us hl; obtain ⟨_, _, rfl⟩ := L3.len2 hl; rfl)
    have d_heads_of : L2.DefK (L2.KOf KX) mg "heads_of" Law.s_heads_of ["rules"] := by
      dsimp only [L2.KOf]
      refine' L2.def_mk KX G ["rules"] ?a ?l ?c ?k ?b
      (case a => k_is); (case l => k_is); (case c => k_is); (case k => k_is)
      (case b => intro _ _ _ _ _ _ us hl; obtain ⟨_, rfl⟩ := L3.len1 hl; rfl)
    have d_live_of : L2.DefK (L2.KOf KX) mg "live_of" Law.s_live_of ["heads", "rules"] := by
      dsimp only [L2.KOf]
      refine' L2.def_mk KX G ["heads", "rules"] ?a ?l ?c ?k ?b
      (case a => k_is); (case l => k_is); (case c => k_is); (case k => k_is)
      (case b => intro _ _ _ _ _ _ us hl; obtain ⟨_, _, rfl⟩ := L3.len2 hl; rfl)
    have d_has_live_body : L2.DefK (L2.KOf KX) mg "has_live_body" Law.s_has_live_body ["head", "rules", "heads", "live"] := by
      dsimp only [L2.KOf]
      refine' L2.def_mk KX G ["head", "rules", "heads", "live"] ?a ?l ?c ?k ?b
      (case a => k_is); (case l => k_is); (case c => k_is); (case k => k_is)
      (case b => intro _ _ _ _ _ _ us hl; obtain ⟨_, _, _, _, rfl⟩ := L3.len4 hl; rfl)
    have d_is_live_body : L2.DefK (L2.KOf KX) mg "is_live_body" Law.s_is_live_body ["body", "heads", "live"] := by
      dsimp only [L2.KOf]
      refine' L2.def_mk KX G ["body", "heads", "live"] ?a ?l ?c ?k ?b
      (case a => k_is); (case l => k_is); (case c => k_is); (case k => k_is)
      (case b => intro _ _ _ _ _ _ us hl; obtain ⟨_, _, _, rfl⟩ := L3.len3 hl; rfl)
    have d_head_of : L2.DefK (L2.KOf KX) mg "head_of" Law.s_head_of ["grammar", "tree"] := by
      dsimp only [L2.KOf]
      refine' L2.def_mk KX G ["grammar", "tree"] ?a ?l ?c ?k ?b
      (case a => k_is); (case l => k_is); (case c => k_is); (case k => k_is)
      (case b => intro _ _ _ _ _ _ us hl; obtain ⟨_, _, rfl⟩ := L3.len2 hl; rfl)
    have d_words_of : L2.DefK (L2.KOf KX) mg "words_of" Law.s_words_of ["grammar", "tree"] := by
      dsimp only [L2.KOf]
      refine' L2.def_mk KX G ["grammar", "tree"] ?a ?l ?c ?k ?b
      (case a => k_is); (case l => k_is); (case c => k_is); (case k => k_is)
      (case b => intro _ _ _ _ _ _ us hl; obtain ⟨_, _, rfl⟩ := L3.len2 hl; rfl)
    have d_share_of : L2.DefK (L2.KOf KX) mg "share_of" Law.s_share_of ["grammar", "tree"] := by
      dsimp only [L2.KOf]
      refine' L2.def_mk KX G ["grammar", "tree"] ?a ?l ?c ?k ?b
      (case a => k_is); (case l => k_is); (case c => k_is); (case k => k_is)
      (case b => intro _ _ _ _ _ _ us hl; obtain ⟨_, _, rfl⟩ := L3.len2 hl; rfl)
    have d_is_tree : L2.DefK (L2.KOf KX) mg "is_tree" Law.s_is_tree ["grammar", "thing"] := by
      dsimp only [L2.KOf]
      refine' L2.def_mk KX G ["grammar", "thing"] ?a ?l ?c ?k ?b
      (case a => k_is); (case l => k_is); (case c => k_is); (case k => k_is)
      (case b => intro _ _ _ _ _ _ us hl; obtain ⟨_, _, rfl⟩ := L3.len2 hl; rfl)
    have d_fits_rule : L2.DefK (L2.KOf KX) mg "fits_rule" Law.s_fits_rule ["rules", "thing"] := by
      dsimp only [L2.KOf]
      refine' L2.def_mk KX G ["rules", "thing"] ?a ?l ?c ?k ?b
      (case a => k_is); (case l => k_is); (case c => k_is); (case k => k_is)
      (case b => intro _ _ _ _ _ _ us hl; obtain ⟨_, _, rfl⟩ := L3.len2 hl; rfl)
    have d_due_parts : L2.DefK (L2.KOf KX) mg "due_parts" Law.s_due_parts ["rules", "thing"] := by
      dsimp only [L2.KOf]
      refine' L2.def_mk KX G ["rules", "thing"] ?a ?l ?c ?k ?b
      (case a => k_is); (case l => k_is); (case c => k_is); (case k => k_is)
      (case b => intro _ _ _ _ _ _ us hl; obtain ⟨_, _, rfl⟩ := L3.len2 hl; rfl)
    have d_law_cell_at : L2.DefK (L2.KOf KX) mg "_law_cell_at" Law.s_law_cell_at ["_law_script", "_law_k"] := by
      dsimp only [L2.KOf]
      refine' L2.def_mk KX G ["_law_script", "_law_k"] ?a ?l ?c ?k ?b
      (case a => k_is); (case l => k_is); (case c => k_is); (case k => k_is)
      (case b => intro _ _ _ _ _ _ us hl; obtain ⟨_, _, rfl⟩ := L3.len2 hl; rfl)
    have d_law_dice : L2.DefK (L2.KOf KX) mg "_law_dice" Law.s_law_dice ["_law_cell"] := by
      dsimp only [L2.KOf]
      refine' L2.def_mk KX G ["_law_cell"] ?a ?l ?c ?k ?b
      (case a => k_is); (case l => k_is); (case c => k_is); (case k => k_is)
      (case b => intro _ _ _ _ _ _ us hl; obtain ⟨_, rfl⟩ := L3.len1 hl; rfl)
    have d_law_roll : L2.DefK (L2.KOf KX) mg "_law_roll" Law.s_law_roll ["_law_dice_here", "_law_most"] := by
      dsimp only [L2.KOf]
      refine' L2.def_mk KX G ["_law_dice_here", "_law_most"] ?a ?l ?c ?k ?b
      (case a => k_is); (case l => k_is); (case c => k_is); (case k => k_is)
      (case b => intro _ _ _ _ _ _ us hl; obtain ⟨_, _, rfl⟩ := L3.len2 hl; rfl)
    have d_law_whole : L2.DefK (L2.KOf KX) mg "_law_whole" Law.s_law_whole ["_law_found"] := by
      dsimp only [L2.KOf]
      refine' L2.def_mk KX G ["_law_found"] ?a ?l ?c ?k ?b
      (case a => k_is); (case l => k_is); (case c => k_is); (case k => k_is)
      (case b => intro _ _ _ _ _ _ us hl; obtain ⟨_, rfl⟩ := L3.len1 hl; rfl)
    have d_law_symbols : L2.DefK (L2.KOf KX) mg "_law_symbols" Law.s_law_symbols ["_law_cell", "_law_many"] := by
      dsimp only [L2.KOf]
      refine' L2.def_mk KX G ["_law_cell", "_law_many"] ?a ?l ?c ?k ?b
      (case a => k_is); (case l => k_is); (case c => k_is); (case k => k_is)
      (case b => intro _ _ _ _ _ _ us hl; obtain ⟨_, _, rfl⟩ := L3.len2 hl; rfl)
    have d_law_share : L2.DefK (L2.KOf KX) mg "_law_share" Law.s_law_share ["_law_top", "_law_bottom"] := by
      dsimp only [L2.KOf]
      refine' L2.def_mk KX G ["_law_top", "_law_bottom"] ?a ?l ?c ?k ?b
      (case a => k_is); (case l => k_is); (case c => k_is); (case k => k_is)
      (case b => intro _ _ _ _ _ _ us hl; obtain ⟨_, _, rfl⟩ := L3.len2 hl; rfl)
    have d_law_timed : L2.DefK (L2.KOf KX) mg "_law_timed" Law.s_law_timed ["_law_one", "_law_other"] := by
      dsimp only [L2.KOf]
      refine' L2.def_mk KX G ["_law_one", "_law_other"] ?a ?l ?c ?k ?b
      (case a => k_is); (case l => k_is); (case c => k_is); (case k => k_is)
      (case b => intro _ _ _ _ _ _ us hl; obtain ⟨_, _, rfl⟩ := L3.len2 hl; rfl)
    have d_law_is_share : L2.DefK (L2.KOf KX) mg "_law_is_share" Law.s_law_is_share ["_law_found"] := by
      dsimp only [L2.KOf]
      refine' L2.def_mk KX G ["_law_found"] ?a ?l ?c ?k ?b
      (case a => k_is); (case l => k_is); (case c => k_is); (case k => k_is)
      (case b => intro _ _ _ _ _ _ us hl; obtain ⟨_, rfl⟩ := L3.len1 hl; rfl)
    have d_law_bodies : L2.DefK (L2.KOf KX) mg "_law_bodies" Law.s_law_bodies ["_law_dice_here", "_law_heads", "_law_words_here", "_law_first"] := by
      dsimp only [L2.KOf]
      refine' L2.def_mk KX G ["_law_dice_here", "_law_heads", "_law_words_here", "_law_first"] ?a ?l ?c ?k ?b
      (case a => k_is); (case l => k_is); (case c => k_is); (case k => k_is)
      (case b => intro _ _ _ _ _ _ us hl; obtain ⟨_, _, _, _, rfl⟩ := L3.len4 hl; rfl)
    have d_law_rules : L2.DefK (L2.KOf KX) mg "_law_rules" Law.s_law_rules ["_law_dice_here", "_law_heads", "_law_words_here"] := by
      dsimp only [L2.KOf]
      refine' L2.def_mk KX G ["_law_dice_here", "_law_heads", "_law_words_here"] ?a ?l ?c ?k ?b
      (case a => k_is); (case l => k_is); (case c => k_is); (case k => k_is)
      (case b => intro _ _ _ _ _ _ us hl; obtain ⟨_, _, _, rfl⟩ := L3.len3 hl; rfl)
    have d_law_made : L2.DefK (L2.KOf KX) mg "_law_made" Law.s_law_made ["_law_cell", "_law_other", "_law_most"] := by
      dsimp only [L2.KOf]
      refine' L2.def_mk KX G ["_law_cell", "_law_other", "_law_most"] ?a ?l ?c ?k ?b
      (case a => k_is); (case l => k_is); (case c => k_is); (case k => k_is)
      (case b => intro _ _ _ _ _ _ us hl; obtain ⟨_, _, _, rfl⟩ := L3.len3 hl; rfl)
    have d_law_tree : L2.DefK (L2.KOf KX) mg "_law_tree" Law.s_law_tree ["_law_dice_here", "_law_rules_here", "_law_head", "_law_deep"] := by
      dsimp only [L2.KOf]
      refine' L2.def_mk KX G ["_law_dice_here", "_law_rules_here", "_law_head", "_law_deep"] ?a ?l ?c ?k ?b
      (case a => k_is); (case l => k_is); (case c => k_is); (case k => k_is)
      (case b => intro _ _ _ _ _ _ us hl; obtain ⟨_, _, _, _, rfl⟩ := L3.len4 hl; rfl)
    have d_law_words : L2.DefK (L2.KOf KX) mg "_law_words" Law.s_law_words ["_law_tree_here"] := by
      dsimp only [L2.KOf]
      refine' L2.def_mk KX G ["_law_tree_here"] ?a ?l ?c ?k ?b
      (case a => k_is); (case l => k_is); (case c => k_is); (case k => k_is)
      (case b => intro _ _ _ _ _ _ us hl; obtain ⟨_, rfl⟩ := L3.len1 hl; rfl)
    have d_law_share_of : L2.DefK (L2.KOf KX) mg "_law_share_of" Law.s_law_share_of ["_law_rules_here", "_law_tree_here"] := by
      dsimp only [L2.KOf]
      refine' L2.def_mk KX G ["_law_rules_here", "_law_tree_here"] ?a ?l ?c ?k ?b
      (case a => k_is); (case l => k_is); (case c => k_is); (case k => k_is)
      (case b => intro _ _ _ _ _ _ us hl; obtain ⟨_, _, rfl⟩ := L3.len2 hl; rfl)
    have d_law_is_tree : L2.DefK (L2.KOf KX) mg "_law_is_tree" Law.s_law_is_tree ["_law_rules_here", "_law_symbol", "_law_thing"] := by
      dsimp only [L2.KOf]
      refine' L2.def_mk KX G ["_law_rules_here", "_law_symbol", "_law_thing"] ?a ?l ?c ?k ?b
      (case a => k_is); (case l => k_is); (case c => k_is); (case k => k_is)
      (case b => intro _ _ _ _ _ _ us hl; obtain ⟨_, _, _, rfl⟩ := L3.len3 hl; rfl)
    have d_law_spoilt : L2.DefK (L2.KOf KX) mg "_law_spoilt" Law.s_law_spoilt ["_law_rules_here", "_law_tree_here", "_law_cell"] := by
      dsimp only [L2.KOf]
      refine' L2.def_mk KX G ["_law_rules_here", "_law_tree_here", "_law_cell"] ?a ?l ?c ?k ?b
      (case a => k_is); (case l => k_is); (case c => k_is); (case k => k_is)
      (case b => intro _ _ _ _ _ _ us hl; obtain ⟨_, _, _, rfl⟩ := L3.len3 hl; rfl)
    have z_len : mg "len" = none := by
      refine' PySem.W.mg_none_of KX G ?a
      (case a => k_is)
    have z_range : mg "range" = none := by
      refine' PySem.W.mg_none_of KX G ?a
      (case a => k_is)
    have z_list : mg "list" = none := by
      refine' PySem.W.mg_none_of KX G ?a
      (case a => k_is)
    have z_tuple : mg "tuple" = none := by
      refine' PySem.W.mg_none_of KX G ?a
      (case a => k_is)
    have z_int : mg "int" = none := by
      refine' PySem.W.mg_none_of KX G ?a
      (case a => k_is)
    have z_bool : mg "bool" = none := by
      refine' PySem.W.mg_none_of KX G ?a
      (case a => k_is)
    have z_str : mg "str" = none := by
      refine' PySem.W.mg_none_of KX G ?a
      (case a => k_is)
    have z_dict : mg "dict" = none := by
      refine' PySem.W.mg_none_of KX G ?a
      (case a => k_is)
    have z_isinstance : mg "isinstance" = none := by
      refine' PySem.W.mg_none_of KX G ?a
      (case a => k_is)
    have z_sum : mg "sum" = none := by
      refine' PySem.W.mg_none_of KX G ?a
      (case a => k_is)
    have z_enumerate : mg "enumerate" = none := by
      refine' PySem.W.mg_none_of KX G ?a
      (case a => k_is)
    have z_zip : mg "zip" = none := by
      refine' PySem.W.mg_none_of KX G ?a
      (case a => k_is)
    have z_ValueError : mg "ValueError" = none := by
      refine' PySem.W.mg_none_of KX G ?a
      (case a => k_is)
    have z_all : mg "all" = none := by
      refine' PySem.W.mg_none_of KX G ?a
      (case a => k_is)
    have z_any : mg "any" = none := by
      refine' PySem.W.mg_none_of KX G ?a
      (case a => k_is)
    have z_reversed : mg "reversed" = none := by
      refine' PySem.W.mg_none_of KX G ?a
      (case a => k_is)
    have z : L3.Zs mg := ⟨z_len, z_range, z_list, z_tuple, z_int, z_bool, z_str, z_dict, z_isinstance, z_sum, z_enumerate, z_zip, z_ValueError, z_all, z_any, z_reversed⟩
    have g_NOUGHT : L3.GlobD (L2.KOf KX) mg "NOUGHT" (L3.sh 0) := by
      dsimp only [L2.KOf]
      refine' L3.globPair KX G ?a ?l
      (case a => k_is); (case l => k_is)
    have g_ONE : L3.GlobD (L2.KOf KX) mg "ONE" (L3.sh 1) := by
      dsimp only [L2.KOf]
      refine' L3.globPair KX G ?a ?l
      (case a => k_is); (case l => k_is)
    have g_MOST_RULES : L3.GlobD (L2.KOf KX) mg "MOST_RULES" (.int 30) := by
      dsimp only [L2.KOf]
      refine' L3.globInt KX G ?a
      (case a => k_is)
    have g_MOST_SYMBOLS : L3.GlobD (L2.KOf KX) mg "MOST_SYMBOLS" (.int 4) := by
      dsimp only [L2.KOf]
      refine' L3.globInt KX G ?a
      (case a => k_is)
    have g_MOST_LETTERS : L3.GlobD (L2.KOf KX) mg "MOST_LETTERS" (.int 8) := by
      dsimp only [L2.KOf]
      refine' L3.globInt KX G ?a
      (case a => k_is)
    have cc_Grammar : ∃ C, L3.ClsG (L2.KOf KX) C ∧ L2.InitK (L2.KOf KX) mg "Grammar" C "Grammar.__init__" Law.s_Grammar___init__ ["self", "start", "rules"] ∧ L2.MethK (L2.KOf KX) C "rules" "Grammar.rules" Law.s_Grammar_rules ["self"] ∧ L2.MethK (L2.KOf KX) C "heads" "Grammar.heads" Law.s_Grammar_heads ["self"] := by
      dsimp only [L2.KOf]
      refine' ⟨_, L3.clsG_mk ?pg ?hd ?po ?sa ?n0 ?n1 ?n2 ?n3, L2.init_mk KX G ["self", "start", "rules"] ?g ?a ?mk ?i ?kc ?l ?c ?k ?b, L2.meth_mk ["self"] ?a0 ?i0 ?l0 ?c0 ?k0 ?b0, L2.meth_mk ["self"] ?a1 ?i1 ?l1 ?c1 ?k1 ?b1⟩
      (case g => k_is); (case a => k_is); (case mk => k_is); (case i => k_is); (case kc => k_is); (case l => k_is); (case c => k_is); (case k => k_is)
      (case b => intro _ _ _ _ _ _ us hl; obtain ⟨_, _, _, rfl⟩ := L3.len3 hl; rfl)
      (case pg => k_is); (case hd => k_is); (case po => k_is); (case sa => k_is)
      (case n0 => k_is)
      (case n1 => k_is)
      (case n2 => k_is)
      (case n3 => k_is)
      (case a0 => k_is); (case i0 => k_is); (case l0 => k_is); (case c0 => k_is); (case k0 => k_is)
      (case b0 => intro _ _ _ _ _ _ us hl; obtain ⟨_, rfl⟩ := L3.len1 hl; rfl)
      (case a1 => k_is); (case i1 => k_is); (case l1 => k_is); (case c1 => k_is); (case k1 => k_is)
      (case b1 => intro _ _ _ _ _ _ us hl; obtain ⟨_, rfl⟩ := L3.len1 hl; rfl)
    obtain ⟨C_Grammar, c_Grammar, d_Grammar, d_Grammar_rules, d_Grammar_heads⟩ := cc_Grammar
    refine' L2.law_mk (st := Law.s_law) KX G hmg ?a ?l ?c ?k ?b ?ok
    (case a => k_is); (case l => k_is); (case c => k_is); (case k => k_is)
    (case b => exact fun _ => rfl)
    (case ok =>
      intro fd base kb nb F
      exact Law.law_all rfl z g_NOUGHT g_ONE g_MOST_RULES g_MOST_SYMBOLS g_MOST_LETTERS c_Grammar d_Grammar d_Grammar_rules d_Grammar_heads d_common_divisor d_share d_added d_timed d_check_rules d_check_rule d_check_symbol d_is_symbol d_is_letter d_check_start d_check_sums d_heads_of d_live_of d_has_live_body d_is_live_body d_head_of d_words_of d_share_of d_is_tree d_fits_rule d_due_parts d_law_cell_at d_law_dice d_law_roll d_law_whole d_law_symbols d_law_share d_law_timed d_law_is_share d_law_bodies d_law_rules d_law_made d_law_tree d_law_words d_law_share_of d_law_is_tree d_law_spoilt F)
