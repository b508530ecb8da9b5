import PyProof.Rows.All
import Wide.All
import OpenK.AllK
import Wide.FinOn
import Lean
import PyProof.EqAt
import PyProof.EqKinds
import PyProof.TupleCall
import PyProof.NeKinds
import PyProof.EnumStmt
import PyProof.ZipIter
import PyProof.Rows.ZipGen
import PyProof.EnumFor
import PyProof.ConsumeWalk
import PyProof.StrWalks
import PyProof.FString5
import PyProof.TupleKey
import PyProof.DictRoadsH
import PyProof.Rows.TupTab
import PyProof.ReprStr
import PyProof.StrLawsRepr
import PyProof.ListMulRoad
import PyProof.StrOps2
import KE.KIntText
import PySem.Challenge.RW_scoreflow_k23_texts_refused
set_option compiler.extract_closed false
set_option Elab.async false
set_option linter.all false
set_option maxRecDepth 100000
namespace L2
open PySem
def inClass (s : Stmt) (j : Nat) : Stmt := match s with
  | .ClassDef _ _ _ body _ _ _ _ _ _ _ => body.getD j (.Pass ⟨0, 0, 0, 0⟩)
  | _ => .Pass ⟨0, 0, 0, 0⟩
def defArgs (s : Stmt) : Arguments := match s with
  | .FunctionDef _ a _ _ _ _ _ _ _ _ => a
  | _ => { posonlyargs := [], args := [], vararg := none, kwonlyargs := [], kw_defaults := [], kwarg := none, defaults := [] }
def defBody (s : Stmt) : List Stmt := match s with
  | .FunctionDef _ _ b _ _ _ _ _ _ _ => b
  | _ => []
def defScope (s : Stmt) : Scope := match s with
  | .FunctionDef _ _ _ _ _ _ sc _ _ _ => sc
  | _ => { kind := .function, names := [], isGenerator := false, isCoroutine := false }
end L2
namespace Law
open PySem L2
def top (i : Nat) : Stmt := PySem.Challenge.pw_scoreflow_k23_texts_refused.main.body.getD i (.Pass ⟨0, 0, 0, 0⟩)
abbrev s_common_divisor : Stmt := top 10
abbrev s_share : Stmt := top 11
abbrev s_added : Stmt := top 12
abbrev s_Grammar___init__ : Stmt := inClass (top 17) 0
abbrev s_Grammar_start : Stmt := inClass (top 17) 1
abbrev s_Grammar_rules : Stmt := inClass (top 17) 2
abbrev s_Grammar_heads : Stmt := inClass (top 17) 3
abbrev s_Grammar_live : Stmt := inClass (top 17) 4
abbrev s_check_rules : Stmt := top 18
abbrev s_check_rule : Stmt := top 19
abbrev s_check_symbol : Stmt := top 20
abbrev s_is_symbol : Stmt := top 21
abbrev s_is_letter : Stmt := top 22
abbrev s_check_start : Stmt := top 23
abbrev s_check_sums : Stmt := top 24
abbrev s_heads_of : Stmt := top 25
abbrev s_live_of : Stmt := top 26
abbrev s_has_live_body : Stmt := top 27
abbrev s_is_live_body : Stmt := top 28
abbrev s_read : Stmt := top 32
abbrev s_read_start : Stmt := top 33
abbrev s_read_rule : Stmt := top 34
abbrev s_read_share : Stmt := top 35
abbrev s_is_number : Stmt := top 36
abbrev s_law_cell_at : Stmt := top 38
abbrev s_law_symbols : Stmt := top 39
abbrev s_law_share : Stmt := top 40
abbrev s_law_kind : Stmt := top 43
abbrev s_law_odd : Stmt := top 44
abbrev s_law : Stmt := top 45
def en (P : Params) (x : Str) (t : Nat) (v : Value) : DictEntry := { hash := PyData.keyHash P x, key := .str x t, val := v }
def KP : Params → PySem.W.Frag := fun P =>
  (nat_lit 2, { cls := .none, data := .dict #[] }) ::
  (nat_lit 3, { cls := .type "dict", data := .dict #[en P "__name__" 165 (.str "law_scoreflow_k23_texts_refused" 517), en P "__doc__" 166 (.none), en P "__package__" 167 (.none), en P "__loader__" 168 (.builtin "__main__.__loader__#opaque"), en P "__spec__" 169 (.none), en P "__annotations__" 170 (.ref 6), en P "__builtins__" 171 (.ref 4), en P "__file__" 173 (.str "/claim/cut.py" 172), en P "__cached__" 174 (.none), en P "ScoreError" 206 (.ref 24), en P "NoShare" 222 (.ref 37), en P "NoEnd" 238 (.ref 49), en P "NoGrammar" 254 (.ref 61), en P "NoTree" 270 (.ref 73), en P "NoText" 286 (.ref 85), en P "NOUGHT" 291 (.ref 88), en P "ONE" 294 (.ref 89), en P "common_divisor" 303 (.ref 96), en P "share" 312 (.ref 103), en P "added" 323 (.ref 110), en P "MOST_RULES" 327 (.int 30 326), en P "MOST_SYMBOLS" 329 (.int 4 328), en P "MOST_LETTERS" 331 (.int 8 330), en P "Grammar" 392 (.ref 155), en P "check_rules" 401 (.ref 166), en P "check_rule" 409 (.ref 173), en P "check_symbol" 416 (.ref 180), en P "is_symbol" 422 (.ref 185), en P "is_letter" 429 (.ref 192), en P "check_start" 437 (.ref 199), en P "check_sums" 448 (.ref 206), en P "heads_of" 457 (.ref 213), en P "live_of" 463 (.ref 218), en P "has_live_body" 469 (.ref 223), en P "is_live_body" 475 (.ref 228), en P "FIRST_WORD" 479 (.str "start" 478), en P "MOST_FIGURES" 481 (.int 60 480), en P "read" 487 (.ref 233), en P "read_start" 495 (.ref 240), en P "read_rule" 501 (.ref 245), en P "read_share" 510 (.ref 252), en P "is_number" 516 (.ref 257), en P "_law_cell_at" 526 (.ref 264), en P "_law_symbols" 542 (.ref 271), en P "_law_share" 553 (.ref 278), en P "_law_added" 561 (.ref 285), en P "_law_timed" 569 (.ref 292), en P "_law_kind" 577 (.ref 299), en P "_law_odd" 590 (.ref 306), en P "law" 596 (.ref 311)] 50 }) ::
  (nat_lit 23, { cls := .type "dict", data := .dict #[en P "__module__" 196 (.str "scoreflow.errors" 187), en P "__firstlineno__" 200 (.int 2 199), en P "__static_attributes__" 201 (.ref 22), en P "__weakref__" 203 (.ref 25), en P "__doc__" 204 (.none)] 3 }) ::
  (nat_lit 24, { cls := .type "type", data := .cls { name := "ScoreError", bases := [.type "ValueError"], mro := [.ref 24, .type "ValueError", .type "Exception", .type "BaseException", .type "object"], ns := 23, qualname := "ScoreError", subclasses := [.ref 37, .ref 49, .ref 61, .ref 73, .ref 85] }, slots := #[.some (.ref 15), .none, .some (.str "ScoreError" 189), .some (.str "ScoreError" 197), .some (.builtin "ValueError.__new__"), .some (.bool Bool.true)] }) ::
  (nat_lit 25, { cls := .type "getset_descriptor", data := .fields #[.str "__weakref__" 202, .ref 24, .builtin "ExceptionGroup.__weakref__", .none] }) ::
  (nat_lit 36, { cls := .type "dict", data := .dict #[en P "__module__" 214 (.str "scoreflow.errors" 187), en P "__firstlineno__" 218 (.int 4 217), en P "__static_attributes__" 219 (.ref 35), en P "__doc__" 220 (.none)] 2 }) ::
  (nat_lit 37, { cls := .type "type", data := .cls { name := "NoShare", bases := [.ref 24], mro := [.ref 37, .ref 24, .type "ValueError", .type "Exception", .type "BaseException", .type "object"], ns := 36, qualname := "NoShare" }, slots := #[.some (.ref 28), .none, .some (.str "NoShare" 207), .some (.str "NoShare" 215), .some (.builtin "ValueError.__new__"), .some (.bool Bool.true)] }) ::
  (nat_lit 48, { cls := .type "dict", data := .dict #[en P "__module__" 230 (.str "scoreflow.errors" 187), en P "__firstlineno__" 234 (.int 6 233), en P "__static_attributes__" 235 (.ref 47), en P "__doc__" 236 (.none)] 2 }) ::
  (nat_lit 49, { cls := .type "type", data := .cls { name := "NoEnd", bases := [.ref 24], mro := [.ref 49, .ref 24, .type "ValueError", .type "Exception", .type "BaseException", .type "object"], ns := 48, qualname := "NoEnd" }, slots := #[.some (.ref 40), .none, .some (.str "NoEnd" 223), .some (.str "NoEnd" 231), .some (.builtin "ValueError.__new__"), .some (.bool Bool.true)] }) ::
  (nat_lit 60, { cls := .type "dict", data := .dict #[en P "__module__" 246 (.str "scoreflow.errors" 187), en P "__firstlineno__" 250 (.int 8 249), en P "__static_attributes__" 251 (.ref 59), en P "__doc__" 252 (.none)] 2 }) ::
  (nat_lit 61, { cls := .type "type", data := .cls { name := "NoGrammar", bases := [.ref 24], mro := [.ref 61, .ref 24, .type "ValueError", .type "Exception", .type "BaseException", .type "object"], ns := 60, qualname := "NoGrammar" }, slots := #[.some (.ref 52), .none, .some (.str "NoGrammar" 239), .some (.str "NoGrammar" 247), .some (.builtin "ValueError.__new__"), .some (.bool Bool.true)] }) ::
  (nat_lit 72, { cls := .type "dict", data := .dict #[en P "__module__" 262 (.str "scoreflow.errors" 187), en P "__firstlineno__" 266 (.int 10 265), en P "__static_attributes__" 267 (.ref 71), en P "__doc__" 268 (.none)] 2 }) ::
  (nat_lit 73, { cls := .type "type", data := .cls { name := "NoTree", bases := [.ref 24], mro := [.ref 73, .ref 24, .type "ValueError", .type "Exception", .type "BaseException", .type "object"], ns := 72, qualname := "NoTree" }, slots := #[.some (.ref 64), .none, .some (.str "NoTree" 255), .some (.str "NoTree" 263), .some (.builtin "ValueError.__new__"), .some (.bool Bool.true)] }) ::
  (nat_lit 84, { cls := .type "dict", data := .dict #[en P "__module__" 278 (.str "scoreflow.errors" 187), en P "__firstlineno__" 282 (.int 12 281), en P "__static_attributes__" 283 (.ref 83), en P "__doc__" 284 (.none)] 2 }) ::
  (nat_lit 85, { cls := .type "type", data := .cls { name := "NoText", bases := [.ref 24], mro := [.ref 85, .ref 24, .type "ValueError", .type "Exception", .type "BaseException", .type "object"], ns := 84, qualname := "NoText" }, slots := #[.some (.ref 76), .none, .some (.str "NoText" 271), .some (.str "NoText" 279), .some (.builtin "ValueError.__new__"), .some (.bool Bool.true)] }) ::
  (nat_lit 88, { cls := .type "tuple", data := .seq #[.int 0 289, .int 1 290] }) ::
  (nat_lit 89, { cls := .type "tuple", data := .seq #[.int 1 292, .int 1 293] }) ::
  (nat_lit 95, { cls := .type "code", data := .fields #[.str "common_divisor" 295, .str "common_divisor" 296, .str "/claim/cut.py" 297, .int 17 0, .int 2 0, .int 0 0, .int 0 0, .int 3 0, .ref 90, .bool Bool.true, .int 181 0, .ref 91, .none, .ref 92, .ref 93, .ref 94, .int 301 0, .int 17 0, .str "/claim/cut.py" 302] }) ::
  (nat_lit 96, { cls := .type "function", dict := .none, data := .func (PySem.W.fnOf ("common_divisor") ("common_divisor") (L2.defArgs s_common_divisor) (L2.defBody s_common_divisor) (L2.defScope s_common_divisor) .none .none .none (.str "scoreflow.shares" 287) .none (.ref 95) .none), slots := #[] }) ::
  (nat_lit 102, { cls := .type "code", data := .fields #[.str "share" 304, .str "share" 305, .str "/claim/cut.py" 306, .int 23 0, .int 2 0, .int 0 0, .int 0 0, .int 3 0, .ref 97, .bool Bool.true, .int 181 0, .ref 98, .none, .ref 99, .ref 100, .ref 101, .int 310 0, .int 23 0, .str "/claim/cut.py" 311] }) ::
  (nat_lit 103, { cls := .type "function", dict := .none, data := .func (PySem.W.fnOf ("share") ("share") (L2.defArgs s_share) (L2.defBody s_share) (L2.defScope s_share) .none .none .none (.str "scoreflow.shares" 287) .none (.ref 102) .none), slots := #[] }) ::
  (nat_lit 109, { cls := .type "code", data := .fields #[.str "added" 313, .str "added" 314, .str "/claim/cut.py" 315, .int 30 0, .int 2 0, .int 0 0, .int 0 0, .int 3 0, .ref 104, .bool Bool.true, .int 181 0, .ref 105, .none, .ref 106, .ref 107, .ref 108, .int 321 0, .int 30 0, .str "/claim/cut.py" 322] }) ::
  (nat_lit 110, { cls := .type "function", dict := .none, data := .func (PySem.W.fnOf ("added") ("added") (L2.defArgs s_added) (L2.defBody s_added) (L2.defScope s_added) .none .none .none (.str "scoreflow.shares" 287) .none (.ref 109) .none), slots := #[] }) ::
  (nat_lit 123, { cls := .type "code", data := .fields #[.str "__init__" 344, .str "Grammar.__init__" 345, .str "/claim/cut.py" 346, .int 41 0, .int 3 0, .int 0 0, .int 0 0, .int 3 0, .ref 118, .bool Bool.true, .int 181 0, .ref 119, .none, .ref 120, .ref 121, .ref 122, .int 350 0, .int 41 0, .str "/claim/cut.py" 351] }) ::
  (nat_lit 124, { cls := .type "function", dict := .none, data := .func (PySem.W.fnOf ("__init__") ("Grammar.__init__") (L2.defArgs s_Grammar___init__) (L2.defBody s_Grammar___init__) (L2.defScope s_Grammar___init__) .none .none .none (.str "scoreflow.grammar" 324) .none (.ref 123) .none), slots := #[] }) ::
  (nat_lit 130, { cls := .type "code", data := .fields #[.str "start" 353, .str "Grammar.start" 354, .str "/claim/cut.py" 355, .int 50 0, .int 1 0, .int 0 0, .int 0 0, .int 3 0, .ref 125, .bool Bool.true, .int 181 0, .ref 126, .none, .ref 127, .ref 128, .ref 129, .int 357 0, .int 50 0, .str "/claim/cut.py" 358] }) ::
  (nat_lit 131, { cls := .type "function", dict := .none, data := .func (PySem.W.fnOf ("start") ("Grammar.start") (L2.defArgs s_Grammar_start) (L2.defBody s_Grammar_start) (L2.defScope s_Grammar_start) .none .none .none (.str "scoreflow.grammar" 324) .none (.ref 130) .none), slots := #[] }) ::
  (nat_lit 137, { cls := .type "code", data := .fields #[.str "rules" 360, .str "Grammar.rules" 361, .str "/claim/cut.py" 362, .int 53 0, .int 1 0, .int 0 0, .int 0 0, .int 3 0, .ref 132, .bool Bool.true, .int 181 0, .ref 133, .none, .ref 134, .ref 135, .ref 136, .int 364 0, .int 53 0, .str "/claim/cut.py" 365] }) ::
  (nat_lit 138, { cls := .type "function", dict := .none, data := .func (PySem.W.fnOf ("rules") ("Grammar.rules") (L2.defArgs s_Grammar_rules) (L2.defBody s_Grammar_rules) (L2.defScope s_Grammar_rules) .none .none .none (.str "scoreflow.grammar" 324) .none (.ref 137) .none), slots := #[] }) ::
  (nat_lit 144, { cls := .type "code", data := .fields #[.str "heads" 367, .str "Grammar.heads" 368, .str "/claim/cut.py" 369, .int 56 0, .int 1 0, .int 0 0, .int 0 0, .int 3 0, .ref 139, .bool Bool.true, .int 181 0, .ref 140, .none, .ref 141, .ref 142, .ref 143, .int 371 0, .int 56 0, .str "/claim/cut.py" 372] }) ::
  (nat_lit 145, { cls := .type "function", dict := .none, data := .func (PySem.W.fnOf ("heads") ("Grammar.heads") (L2.defArgs s_Grammar_heads) (L2.defBody s_Grammar_heads) (L2.defScope s_Grammar_heads) .none .none .none (.str "scoreflow.grammar" 324) .none (.ref 144) .none), slots := #[] }) ::
  (nat_lit 151, { cls := .type "code", data := .fields #[.str "live" 374, .str "Grammar.live" 375, .str "/claim/cut.py" 376, .int 59 0, .int 1 0, .int 0 0, .int 0 0, .int 3 0, .ref 146, .bool Bool.true, .int 181 0, .ref 147, .none, .ref 148, .ref 149, .ref 150, .int 378 0, .int 59 0, .str "/claim/cut.py" 379] }) ::
  (nat_lit 152, { cls := .type "function", dict := .none, data := .func (PySem.W.fnOf ("live") ("Grammar.live") (L2.defArgs s_Grammar_live) (L2.defBody s_Grammar_live) (L2.defScope s_Grammar_live) .none .none .none (.str "scoreflow.grammar" 324) .none (.ref 151) .none), slots := #[] }) ::
  (nat_lit 154, { cls := .type "dict", data := .dict #[en P "__module__" 339 (.str "scoreflow.grammar" 324), en P "__firstlineno__" 343 (.int 39 342), en P "__init__" 352 (.ref 124), en P "start" 359 (.ref 131), en P "rules" 366 (.ref 138), en P "heads" 373 (.ref 145), en P "live" 380 (.ref 152), en P "__static_attributes__" 385 (.ref 153), en P "__dict__" 387 (.ref 156), en P "__weakref__" 389 (.ref 157), en P "__doc__" 390 (.none)] 4 }) ::
  (nat_lit 155, { cls := .type "type", data := .cls { name := "Grammar", bases := [.type "object"], mro := [.ref 155, .type "object"], ns := 154, qualname := "Grammar" }, slots := #[.none, .none, .some (.str "Grammar" 332), .some (.str "Grammar" 340), .some (.builtin "object.__new__"), .some (.bool Bool.true)] }) ::
  (nat_lit 156, { cls := .type "getset_descriptor", data := .fields #[.str "__dict__" 386, .ref 155, .builtin "function.__dict__", .builtin "function.__dict__#set"] }) ::
  (nat_lit 157, { cls := .type "getset_descriptor", data := .fields #[.str "__weakref__" 388, .ref 155, .builtin "ExceptionGroup.__weakref__", .none] }) ::
  (nat_lit 165, { cls := .type "code", data := .fields #[.str "check_rules" 393, .str "check_rules" 394, .str "/claim/cut.py" 395, .int 61 0, .int 1 0, .int 0 0, .int 0 0, .int 3 0, .ref 160, .bool Bool.true, .int 181 0, .ref 161, .none, .ref 162, .ref 163, .ref 164, .int 399 0, .int 61 0, .str "/claim/cut.py" 400] }) ::
  (nat_lit 166, { cls := .type "function", dict := .none, data := .func (PySem.W.fnOf ("check_rules") ("check_rules") (L2.defArgs s_check_rules) (L2.defBody s_check_rules) (L2.defScope s_check_rules) .none .none .none (.str "scoreflow.grammar" 324) .none (.ref 165) .none), slots := #[] }) ::
  (nat_lit 172, { cls := .type "code", data := .fields #[.str "check_rule" 402, .str "check_rule" 403, .str "/claim/cut.py" 404, .int 70 0, .int 1 0, .int 0 0, .int 0 0, .int 3 0, .ref 167, .bool Bool.true, .int 181 0, .ref 168, .none, .ref 169, .ref 170, .ref 171, .int 407 0, .int 70 0, .str "/claim/cut.py" 408] }) ::
  (nat_lit 173, { cls := .type "function", dict := .none, data := .func (PySem.W.fnOf ("check_rule") ("check_rule") (L2.defArgs s_check_rule) (L2.defBody s_check_rule) (L2.defScope s_check_rule) .none .none .none (.str "scoreflow.grammar" 324) .none (.ref 172) .none), slots := #[] }) ::
  (nat_lit 179, { cls := .type "code", data := .fields #[.str "check_symbol" 410, .str "check_symbol" 411, .str "/claim/cut.py" 412, .int 78 0, .int 1 0, .int 0 0, .int 0 0, .int 3 0, .ref 174, .bool Bool.true, .int 181 0, .ref 175, .none, .ref 176, .ref 177, .ref 178, .int 414 0, .int 78 0, .str "/claim/cut.py" 415] }) ::
  (nat_lit 180, { cls := .type "function", dict := .none, data := .func (PySem.W.fnOf ("check_symbol") ("check_symbol") (L2.defArgs s_check_symbol) (L2.defBody s_check_symbol) (L2.defScope s_check_symbol) .none .none .none (.str "scoreflow.grammar" 324) .none (.ref 179) .none), slots := #[] }) ::
  (nat_lit 184, { cls := .type "code", data := .fields #[.str "is_symbol" 417, .str "is_symbol" 418, .str "/claim/cut.py" 419, .int 81 0, .int 1 0, .int 0 0, .int 0 0, .int 3 0, .ref 181, .bool Bool.true, .int 181 0, .ref 182, .none, .none, .none, .ref 183, .int 420 0, .int 81 0, .str "/claim/cut.py" 421] }) ::
  (nat_lit 185, { cls := .type "function", dict := .none, data := .func (PySem.W.fnOf ("is_symbol") ("is_symbol") (L2.defArgs s_is_symbol) (L2.defBody s_is_symbol) (L2.defScope s_is_symbol) .none .none .none (.str "scoreflow.grammar" 324) .none (.ref 184) .none), slots := #[] }) ::
  (nat_lit 191, { cls := .type "code", data := .fields #[.str "is_letter" 423, .str "is_letter" 424, .str "/claim/cut.py" 425, .int 83 0, .int 1 0, .int 0 0, .int 0 0, .int 3 0, .ref 186, .bool Bool.true, .int 181 0, .ref 187, .none, .ref 188, .ref 189, .ref 190, .int 427 0, .int 83 0, .str "/claim/cut.py" 428] }) ::
  (nat_lit 192, { cls := .type "function", dict := .none, data := .func (PySem.W.fnOf ("is_letter") ("is_letter") (L2.defArgs s_is_letter) (L2.defBody s_is_letter) (L2.defScope s_is_letter) .none .none .none (.str "scoreflow.grammar" 324) .none (.ref 191) .none), slots := #[] }) ::
  (nat_lit 198, { cls := .type "code", data := .fields #[.str "check_start" 430, .str "check_start" 431, .str "/claim/cut.py" 432, .int 85 0, .int 2 0, .int 0 0, .int 0 0, .int 3 0, .ref 193, .bool Bool.true, .int 181 0, .ref 194, .none, .ref 195, .ref 196, .ref 197, .int 435 0, .int 85 0, .str "/claim/cut.py" 436] }) ::
  (nat_lit 199, { cls := .type "function", dict := .none, data := .func (PySem.W.fnOf ("check_start") ("check_start") (L2.defArgs s_check_start) (L2.defBody s_check_start) (L2.defScope s_check_start) .none .none .none (.str "scoreflow.grammar" 324) .none (.ref 198) .none), slots := #[] }) ::
  (nat_lit 205, { cls := .type "code", data := .fields #[.str "check_sums" 438, .str "check_sums" 439, .str "/claim/cut.py" 440, .int 88 0, .int 2 0, .int 0 0, .int 0 0, .int 3 0, .ref 200, .bool Bool.true, .int 181 0, .ref 201, .none, .ref 202, .ref 203, .ref 204, .int 446 0, .int 88 0, .str "/claim/cut.py" 447] }) ::
  (nat_lit 206, { cls := .type "function", dict := .none, data := .func (PySem.W.fnOf ("check_sums") ("check_sums") (L2.defArgs s_check_sums) (L2.defBody s_check_sums) (L2.defScope s_check_sums) .none .none .none (.str "scoreflow.grammar" 324) .none (.ref 205) .none), slots := #[] }) ::
  (nat_lit 212, { cls := .type "code", data := .fields #[.str "heads_of" 449, .str "heads_of" 450, .str "/claim/cut.py" 451, .int 96 0, .int 1 0, .int 0 0, .int 0 0, .int 3 0, .ref 207, .bool Bool.true, .int 181 0, .ref 208, .none, .ref 209, .ref 210, .ref 211, .int 455 0, .int 96 0, .str "/claim/cut.py" 456] }) ::
  (nat_lit 213, { cls := .type "function", dict := .none, data := .func (PySem.W.fnOf ("heads_of") ("heads_of") (L2.defArgs s_heads_of) (L2.defBody s_heads_of) (L2.defScope s_heads_of) .none .none .none (.str "scoreflow.grammar" 324) .none (.ref 212) .none), slots := #[] }) ::
  (nat_lit 217, { cls := .type "code", data := .fields #[.str "live_of" 458, .str "live_of" 459, .str "/claim/cut.py" 460, .int 102 0, .int 2 0, .int 0 0, .int 0 0, .int 3 0, .ref 214, .bool Bool.true, .int 181 0, .ref 215, .none, .none, .none, .ref 216, .int 461 0, .int 102 0, .str "/claim/cut.py" 462] }) ::
  (nat_lit 218, { cls := .type "function", dict := .none, data := .func (PySem.W.fnOf ("live_of") ("live_of") (L2.defArgs s_live_of) (L2.defBody s_live_of) (L2.defScope s_live_of) .none .none .none (.str "scoreflow.grammar" 324) .none (.ref 217) .none), slots := #[] }) ::
  (nat_lit 222, { cls := .type "code", data := .fields #[.str "has_live_body" 464, .str "has_live_body" 465, .str "/claim/cut.py" 466, .int 110 0, .int 4 0, .int 0 0, .int 0 0, .int 3 0, .ref 219, .bool Bool.true, .int 181 0, .ref 220, .none, .none, .none, .ref 221, .int 467 0, .int 110 0, .str "/claim/cut.py" 468] }) ::
  (nat_lit 223, { cls := .type "function", dict := .none, data := .func (PySem.W.fnOf ("has_live_body") ("has_live_body") (L2.defArgs s_has_live_body) (L2.defBody s_has_live_body) (L2.defScope s_has_live_body) .none .none .none (.str "scoreflow.grammar" 324) .none (.ref 222) .none), slots := #[] }) ::
  (nat_lit 227, { cls := .type "code", data := .fields #[.str "is_live_body" 470, .str "is_live_body" 471, .str "/claim/cut.py" 472, .int 112 0, .int 3 0, .int 0 0, .int 0 0, .int 3 0, .ref 224, .bool Bool.true, .int 181 0, .ref 225, .none, .none, .none, .ref 226, .int 473 0, .int 112 0, .str "/claim/cut.py" 474] }) ::
  (nat_lit 228, { cls := .type "function", dict := .none, data := .func (PySem.W.fnOf ("is_live_body") ("is_live_body") (L2.defArgs s_is_live_body) (L2.defBody s_is_live_body) (L2.defScope s_is_live_body) .none .none .none (.str "scoreflow.grammar" 324) .none (.ref 227) .none), slots := #[] }) ::
  (nat_lit 232, { cls := .type "code", data := .fields #[.str "read" 482, .str "read" 483, .str "/claim/cut.py" 484, .int 117 0, .int 1 0, .int 0 0, .int 0 0, .int 3 0, .ref 229, .bool Bool.true, .int 181 0, .ref 230, .none, .none, .none, .ref 231, .int 485 0, .int 117 0, .str "/claim/cut.py" 486] }) ::
  (nat_lit 233, { cls := .type "function", dict := .none, data := .func (PySem.W.fnOf ("read") ("read") (L2.defArgs s_read) (L2.defBody s_read) (L2.defScope s_read) .none .none .none (.str "scoreflow.notes" 476) .none (.ref 232) .none), slots := #[] }) ::
  (nat_lit 239, { cls := .type "code", data := .fields #[.str "read_start" 488, .str "read_start" 489, .str "/claim/cut.py" 490, .int 121 0, .int 1 0, .int 0 0, .int 0 0, .int 3 0, .ref 234, .bool Bool.true, .int 181 0, .ref 235, .none, .ref 236, .ref 237, .ref 238, .int 493 0, .int 121 0, .str "/claim/cut.py" 494] }) ::
  (nat_lit 240, { cls := .type "function", dict := .none, data := .func (PySem.W.fnOf ("read_start") ("read_start") (L2.defArgs s_read_start) (L2.defBody s_read_start) (L2.defScope s_read_start) .none .none .none (.str "scoreflow.notes" 476) .none (.ref 239) .none), slots := #[] }) ::
  (nat_lit 244, { cls := .type "code", data := .fields #[.str "read_rule" 496, .str "read_rule" 497, .str "/claim/cut.py" 498, .int 126 0, .int 1 0, .int 0 0, .int 0 0, .int 3 0, .ref 241, .bool Bool.true, .int 181 0, .ref 242, .none, .none, .none, .ref 243, .int 499 0, .int 126 0, .str "/claim/cut.py" 500] }) ::
  (nat_lit 245, { cls := .type "function", dict := .none, data := .func (PySem.W.fnOf ("read_rule") ("read_rule") (L2.defArgs s_read_rule) (L2.defBody s_read_rule) (L2.defScope s_read_rule) .none .none .none (.str "scoreflow.notes" 476) .none (.ref 244) .none), slots := #[] }) ::
  (nat_lit 251, { cls := .type "code", data := .fields #[.str "read_share" 502, .str "read_share" 503, .str "/claim/cut.py" 504, .int 133 0, .int 1 0, .int 0 0, .int 0 0, .int 3 0, .ref 246, .bool Bool.true, .int 181 0, .ref 247, .none, .ref 248, .ref 249, .ref 250, .int 508 0, .int 133 0, .str "/claim/cut.py" 509] }) ::
  (nat_lit 252, { cls := .type "function", dict := .none, data := .func (PySem.W.fnOf ("read_share") ("read_share") (L2.defArgs s_read_share) (L2.defBody s_read_share) (L2.defScope s_read_share) .none .none .none (.str "scoreflow.notes" 476) .none (.ref 251) .none), slots := #[] }) ::
  (nat_lit 256, { cls := .type "code", data := .fields #[.str "is_number" 511, .str "is_number" 512, .str "/claim/cut.py" 513, .int 141 0, .int 1 0, .int 0 0, .int 0 0, .int 3 0, .ref 253, .bool Bool.true, .int 181 0, .ref 254, .none, .none, .none, .ref 255, .int 514 0, .int 141 0, .str "/claim/cut.py" 515] }) ::
  (nat_lit 257, { cls := .type "function", dict := .none, data := .func (PySem.W.fnOf ("is_number") ("is_number") (L2.defArgs s_is_number) (L2.defBody s_is_number) (L2.defScope s_is_number) .none .none .none (.str "scoreflow.notes" 476) .none (.ref 256) .none), slots := #[] }) ::
  (nat_lit 263, { cls := .type "code", data := .fields #[.str "_law_cell_at" 519, .str "_law_cell_at" 520, .str "/claim/cut.py" 521, .int 146 0, .int 2 0, .int 0 0, .int 0 0, .int 3 0, .ref 258, .bool Bool.true, .int 181 0, .ref 259, .none, .ref 260, .ref 261, .ref 262, .int 524 0, .int 146 0, .str "/claim/cut.py" 525] }) ::
  (nat_lit 264, { cls := .type "function", dict := .none, data := .func (PySem.W.fnOf ("_law_cell_at") ("_law_cell_at") (L2.defArgs s_law_cell_at) (L2.defBody s_law_cell_at) (L2.defScope s_law_cell_at) .none .none .none (.str "law_scoreflow_k23_texts_refused" 517) .none (.ref 263) .none), slots := #[] }) ::
  (nat_lit 270, { cls := .type "code", data := .fields #[.str "_law_symbols" 527, .str "_law_symbols" 528, .str "/claim/cut.py" 529, .int 150 0, .int 2 0, .int 0 0, .int 0 0, .int 3 0, .ref 265, .bool Bool.true, .int 181 0, .ref 266, .none, .ref 267, .ref 268, .ref 269, .int 540 0, .int 150 0, .str "/claim/cut.py" 541] }) ::
  (nat_lit 271, { cls := .type "function", dict := .none, data := .func (PySem.W.fnOf ("_law_symbols") ("_law_symbols") (L2.defArgs s_law_symbols) (L2.defBody s_law_symbols) (L2.defScope s_law_symbols) .none .none .none (.str "law_scoreflow_k23_texts_refused" 517) .none (.ref 270) .none), slots := #[] }) ::
  (nat_lit 277, { cls := .type "code", data := .fields #[.str "_law_share" 543, .str "_law_share" 544, .str "/claim/cut.py" 545, .int 164 0, .int 2 0, .int 0 0, .int 0 0, .int 3 0, .ref 272, .bool Bool.true, .int 181 0, .ref 273, .none, .ref 274, .ref 275, .ref 276, .int 551 0, .int 164 0, .str "/claim/cut.py" 552] }) ::
  (nat_lit 278, { cls := .type "function", dict := .none, data := .func (PySem.W.fnOf ("_law_share") ("_law_share") (L2.defArgs s_law_share) (L2.defBody s_law_share) (L2.defScope s_law_share) .none .none .none (.str "law_scoreflow_k23_texts_refused" 517) .none (.ref 277) .none), slots := #[] }) ::
  (nat_lit 298, { cls := .type "code", data := .fields #[.str "_law_kind" 570, .str "_law_kind" 571, .str "/claim/cut.py" 572, .int 176 0, .int 1 0, .int 0 0, .int 0 0, .int 3 0, .ref 293, .bool Bool.true, .int 181 0, .ref 294, .none, .ref 295, .ref 296, .ref 297, .int 575 0, .int 176 0, .str "/claim/cut.py" 576] }) ::
  (nat_lit 299, { cls := .type "function", dict := .none, data := .func (PySem.W.fnOf ("_law_kind") ("_law_kind") (L2.defArgs s_law_kind) (L2.defBody s_law_kind) (L2.defScope s_law_kind) .none .none .none (.str "law_scoreflow_k23_texts_refused" 517) .none (.ref 298) .none), slots := #[] }) ::
  (nat_lit 305, { cls := .type "code", data := .fields #[.str "_law_odd" 578, .str "_law_odd" 579, .str "/claim/cut.py" 580, .int 186 0, .int 3 0, .int 0 0, .int 0 0, .int 3 0, .ref 300, .bool Bool.true, .int 181 0, .ref 301, .none, .ref 302, .ref 303, .ref 304, .int 588 0, .int 186 0, .str "/claim/cut.py" 589] }) ::
  (nat_lit 306, { cls := .type "function", dict := .none, data := .func (PySem.W.fnOf ("_law_odd") ("_law_odd") (L2.defArgs s_law_odd) (L2.defBody s_law_odd) (L2.defScope s_law_odd) .none .none .none (.str "law_scoreflow_k23_texts_refused" 517) .none (.ref 305) .none), slots := #[] }) ::
  (nat_lit 310, { cls := .type "code", data := .fields #[.str "law" 591, .str "law" 592, .str "/claim/cut.py" 593, .int 208 0, .int 1 0, .int 0 0, .int 0 0, .int 3 0, .ref 307, .bool Bool.true, .int 181 0, .ref 308, .none, .none, .none, .ref 309, .int 594 0, .int 208 0, .str "/claim/cut.py" 595] }) ::
  (nat_lit 311, { cls := .type "function", dict := .none, data := .func (PySem.W.fnOf ("law") ("law") (L2.defArgs s_law) (L2.defBody s_law) (L2.defScope s_law) .none .none .none (.str "law_scoreflow_k23_texts_refused" 517) .none (.ref 310) .none), slots := #[] }) :: []
def KA : List Addr := nat_lit 2 :: nat_lit 3 :: nat_lit 23 :: nat_lit 24 :: nat_lit 25 :: nat_lit 36 :: nat_lit 37 :: nat_lit 48 :: nat_lit 49 :: nat_lit 60 :: nat_lit 61 :: nat_lit 72 :: nat_lit 73 :: nat_lit 84 :: nat_lit 85 :: nat_lit 88 :: nat_lit 89 :: nat_lit 95 :: nat_lit 96 :: nat_lit 102 :: nat_lit 103 :: nat_lit 109 :: nat_lit 110 :: nat_lit 123 :: nat_lit 124 :: nat_lit 130 :: nat_lit 131 :: nat_lit 137 :: nat_lit 138 :: nat_lit 144 :: nat_lit 145 :: nat_lit 151 :: nat_lit 152 :: nat_lit 154 :: nat_lit 155 :: nat_lit 156 :: nat_lit 157 :: nat_lit 165 :: nat_lit 166 :: nat_lit 172 :: nat_lit 173 :: nat_lit 179 :: nat_lit 180 :: nat_lit 184 :: nat_lit 185 :: nat_lit 191 :: nat_lit 192 :: nat_lit 198 :: nat_lit 199 :: nat_lit 205 :: nat_lit 206 :: nat_lit 212 :: nat_lit 213 :: nat_lit 217 :: nat_lit 218 :: nat_lit 222 :: nat_lit 223 :: nat_lit 227 :: nat_lit 228 :: nat_lit 232 :: nat_lit 233 :: nat_lit 239 :: nat_lit 240 :: nat_lit 244 :: nat_lit 245 :: nat_lit 251 :: nat_lit 252 :: nat_lit 256 :: nat_lit 257 :: nat_lit 263 :: nat_lit 264 :: nat_lit 270 :: nat_lit 271 :: nat_lit 277 :: nat_lit 278 :: nat_lit 298 :: nat_lit 299 :: nat_lit 305 :: nat_lit 306 :: nat_lit 310 :: nat_lit 311 :: []
theorem KE : ∀ P, KA = (KP P).map (·.1) := fun _ => by kernel_rfl
def view : Program := { PySem.Challenge.pw_scoreflow_k23_texts_refused with main := { PySem.Challenge.pw_scoreflow_k23_texts_refused.main with body := [top 1, top 2, top 3, top 4, top 5, top 6, top 8, top 9, top 10, top 11, top 12, top 14, top 15, top 16, top 17, top 18, top 19, top 20, top 21, top 22, top 23, top 24, top 25, top 26, top 27, top 28, top 30, top 31, top 32, top 33, top 34, top 35, top 36, top 38, top 39, top 40, top 41, top 42, top 43, top 44, top 45] } }
set_option maxHeartbeats 0 in
theorem hl : PySem.W.LeftO PySem.Challenge.pw_scoreflow_k23_texts_refused view [] (fun s => PySem.W.xlAt view [] s && PySem.W.recOk [] s) (PySem.W.kHook KP KA KE).obs (PySem.W.kHook KP KA KE).val 5162 := by intro w; kernel_rfl
end Law
namespace L2
open PySem PySem.Spec PyProof.Rows
abbrev Key := Sum Int Str
def keyIs : Key → Value → Bool
  | .inl k, v => Value.isInt k v
  | .inr x, v => Value.isStrOf x v
def keyH (w : World) : Key → Int
  | .inl k => hashInt k
  | .inr x => hashStr w x
theorem keyIs_shape : ∀ {k : Key} {v : Value}, keyIs k v = true → (∃ i t, k = Sum.inl i ∧ v = Value.int i t) ∨ (∃ x t, k = Sum.inr x ∧ v = Value.str x t)
  | .inl i, v, h => by
    obtain ⟨t, e⟩ := Value.isInt_shape (k := i) (v := v) h
    exact .inl ⟨i, t, rfl, e⟩
  | .inr x, v, h => by
    obtain ⟨t, e⟩ := Value.isStrOf_shape (x := x) (v := v) h
    exact .inr ⟨x, t, rfl, e⟩
theorem key_ll (a b : Int) : decide ((Sum.inl a : Key) = Sum.inl b) = (a == b) := by
  by_cases e : a = b
  · subst e; simp
  · have h : ¬ (Sum.inl a : Key) = Sum.inl b := fun q => e (Sum.inl.inj q)
    rw [decide_eq_false h]
    exact (beq_eq_false_iff_ne.mpr e).symm
theorem key_rr (a b : Str) : decide ((Sum.inr a : Key) = Sum.inr b) = decide (a = b) := by
  by_cases e : a = b
  · subst e; simp
  · have h : ¬ (Sum.inr a : Key) = Sum.inr b := fun q => e (Sum.inr.inj q)
    rw [decide_eq_false h, decide_eq_false e]
theorem key_lr (a : Int) (b : Str) : decide ((Sum.inl a : Key) = Sum.inr b) = false := decide_eq_false (fun q => nomatch q)
theorem key_rl (a : Str) (b : Int) : decide ((Sum.inr a : Key) = Sum.inl b) = false := decide_eq_false (fun q => nomatch q)
def mixKind (prog : Program) (w : World) : PySem.KeyKind prog w Key where
  is := keyIs
  hash := keyH w
  inj := fun v a b ha hb => by
    rcases keyIs_shape ha with ⟨i, t, rfl, rfl⟩ | ⟨x, t, rfl, rfl⟩
    · rcases keyIs_shape hb with ⟨j, u, rfl, e⟩ | ⟨y, u, rfl, e⟩
      · injection e with e1 _; rw [e1]
      · exact nomatch e
    · rcases keyIs_shape hb with ⟨j, u, rfl, e⟩ | ⟨y, u, rfl, e⟩
      · exact nomatch e
      · injection e with e1 _; rw [e1]
  byValue := fun k v h => by
    rcases keyIs_shape h with ⟨i, t, rfl, rfl⟩ | ⟨x, t, rfl, rfl⟩ <;> rfl
  pyHash := fun hv h => by
    rcases keyIs_shape hv with ⟨i, t, rfl, rfl⟩ | ⟨x, t, rfl, rfl⟩
    · exact wpAny_pyHash_int h
    · exact wpAny_pyHash_str h
  eqBool := fun hu hv h => by
    rcases keyIs_shape hu with ⟨i, t, rfl, rfl⟩ | ⟨x, t, rfl, rfl⟩
    · rcases keyIs_shape hv with ⟨j, u, rfl, rfl⟩ | ⟨y, u, rfl, rfl⟩
      · rw [key_ll] at h; exact wpAny_eqBool_int h
      · rw [key_lr] at h; exact SeqAt.EqAt.int_str i t y u _ _ _ _ h
    · rcases keyIs_shape hv with ⟨j, u, rfl, rfl⟩ | ⟨y, u, rfl, rfl⟩
      · rw [key_rl] at h; exact SeqAt.EqAt.str_int x t j u _ _ _ _ h
      · rw [key_rr] at h; exact wpAny_eqBool_str h
  «strs» := fun k x t v h => by
    rcases keyIs_shape h with ⟨i, u, rfl, e⟩ | ⟨y, u, rfl, e⟩
    · exact nomatch e
    · injection e with e1 _
      subst e1
      cases v <;> rfl
end L2
namespace L2
open PySem PySem.Spec PyProof.Rows
inductive V where
  | non | bl (b : Bool) | int (i : Int) | str (x : Str) | byt (b : Array UInt8) | flt (b : UInt64) | ref (a : Addr) | ty (n : String)
  deriving DecidableEq
def RelV : V → Value → Prop
  | .non, u => u = Value.none
  | .bl b, u => u = Value.bool b
  | .int i, u => ∃ t, u = Value.int i t
  | .str x, u => ∃ t, u = Value.str x t
  | .byt b, u => ∃ t, u = Value.bytes b t
  | .flt b, u => ∃ t, u = Value.float b t
  | .ref a, u => u = Value.ref a
  | .ty n, u => u = Value.type n
abbrev Vals : List V → List Value → Prop := Paired RelV
theorem Vals.length {xs : List V} {us : List Value} (r : Vals xs us) : xs.length = us.length := Paired.length r
theorem Vals.get : ∀ {xs : List V} {us : List Value} {i : Nat} {x : V}, Vals xs us → xs[i]? = some x → ∃ u, us[i]? = some u ∧ RelV x u
  | _, _, _, _, .nil, e => by simp at e
  | _, _, 0, _, .cons r _, e => by simp at e; subst e; exact ⟨_, rfl, r⟩
  | _, _, i + 1, x, .cons _ t, e => by
    obtain ⟨u, h1, h2⟩ := Vals.get (i := i) (x := x) t (by simpa using e)
    exact ⟨u, by simpa using h1, h2⟩
theorem Vals.set {x : V} {u : Value} (r : RelV x u) : ∀ {xs : List V} {us : List Value} (i : Nat), Vals xs us → Vals (xs.set i x) (us.set i u)
  | _, _, _, .nil => .nil
  | _, _, 0, .cons _ t => .cons r t
  | _, _, i + 1, .cons q t => .cons q (Vals.set r i t)
theorem Vals.append : ∀ {xs ys : List V} {us ws : List Value}, Vals xs us → Vals ys ws → Vals (xs ++ ys) (us ++ ws)
  | _, _, _, _, .nil, s => s
  | _, _, _, _, .cons r t, s => .cons r (Vals.append t s)
theorem Vals.take : ∀ {xs : List V} {us : List Value} (n : Nat), Vals xs us → Vals (xs.take n) (us.take n)
  | _, _, 0, _ => .nil
  | _, _, _ + 1, .nil => .nil
  | _, _, n + 1, .cons r t => .cons r (Vals.take n t)
theorem Vals.drop : ∀ {xs : List V} {us : List Value} (n : Nat), Vals xs us → Vals (xs.drop n) (us.drop n)
  | _, _, 0, r => r
  | _, _, _ + 1, .nil => .nil
  | _, _, n + 1, .cons _ t => Vals.drop n t
def RelO : Option V → Option Value → Prop
  | some v, some u => RelV v u
  | none, none => True
  | _, _ => False
def KV {κ : Type} : List (κ × V) → List (κ × Value) → Prop := Paired fun (p : κ × V) (q : κ × Value) => p.1 = q.1 ∧ RelV p.2 q.2
def kV : Key → V
  | .inl i => .int i
  | .inr x => .str x
inductive HO where
  /-- a list -/
  | lst (xs : List V)
  /-- a tuple (never changes) -/
  | tup (xs : List V)
  /-- a dict whose keys are ints and texts; one whose keys are tuples of ints and texts (the empty one is both) -/
  | dK (kvs : List (Key × V)) | dT (kvs : List (List Key × V))
  /-- a set of ints: its members, its size -/
  | set (S : Int → Bool) (n : Nat)
  /-- an instance of the class at C, its dict at dx, its attributes -/
  | ins (C dx : Addr) (fs : List (Str × V))
  /-- the dict of the instance at x -/
  | own (x : Addr)
  /-- the dict of an exception -/
  | xd (fs : List (Str × V))
  /-- a bound method, f of x -/
  | met (f x : Addr)
  /-- a range object lo, lo + 1, .. below hi -/
  | rng (lo hi : Int)
  /-- a thing that is known to the object (the script; a dict while a loop walks it): read, never written while it is so -/
  | frz (o : Obj) (u : HO)
  /-- a code object's table -/
  | tbl (ps : Array Value)
  /-- any other thing, by what is true of its one object (a def of one's own: SetO a S n := HO.ext fun h => ..) -/
  | ext (φ : Heap → Prop)
abbrev Hp := Addr → Option HO
def upd (H : Hp) (a : Addr) (o : HO) : Hp := fun b => if b = a then some o else H b
theorem upd_same {H : Hp} {a : Addr} {o : HO} : upd H a o a = some o := by unfold upd; rw [if_pos rfl]
theorem upd_ne {H : Hp} {a b : Addr} {o : HO} (h : b ≠ a) : upd H a o b = H b := by unfold upd; rw [if_neg h]
theorem ne_of_none {H : Hp} {a b : Addr} {o : HO} (h : H a = some o) (h' : H b = none) : a ≠ b := by
  intro e; subst e; rw [h] at h'; cases h'
section
variable (P : Program) (w : World)
def ObjOk (H : Hp) (h : Heap) (a : Addr) : HO → Prop
  | .lst xs => xs.length ≤ sizeLine ∧ ∃ (its : List Value) (n : Nat), Vals xs its ∧ h.get? a = some { cls := .type "list", data := .seq its.toArray n }
  | .tup xs => xs.length ≤ sizeLine ∧ ∃ its : List Value, Vals xs its ∧ IsTup h a its.toArray
  | .dK kvs => kvs.length ≤ sizeLine ∧ (a == sysModules) = false ∧ ∃ vs, KV kvs vs ∧ h.DictOf (mixKind P w) a vs
  | .dT kvs => kvs.length ≤ sizeLine ∧ (a == sysModules) = false ∧ ∃ xs : List (List Key × Addr × Value),
      Paired (fun (p : List Key × V) (q : List Key × Addr × Value) => p.1 = q.1 ∧ H q.2.1 = some (.tup (p.1.map kV)) ∧ RelV p.2 q.2.2) kvs xs ∧
      ∃ o es ep, h.get? a = some o ∧ o.ExactDict ∧ o.data = .dict es ep ∧ es.toList = xs.map (entryOfKey (tupleKind (mixKind P w))) ∧ (xs.map (·.1)).Nodup
  | .set S n => h.SetOf (intKind P w) a S n
  | .ins C dx fs => H dx = some (.own a) ∧ fs.length ≤ 1000 ∧ dx ≠ a ∧ h.get? a = some (PySem.W.instObj C dx) ∧
      ∃ mA, h.Ns1 dx mA ∧ (∀ f, RelO (fs.lookup f) (mA f)) ∧ PySem.Within mA (fs.map (·.1))
  | .own _ => ∃ o, h.get? a = some o
  | .xd fs => ∃ mA, h.Ns1 a mA ∧ ∀ f, RelO (fs.lookup f) (mA f)
  | .rng lo hi => ∃ t u v, h.get? a = some { cls := .type "range", data := .fields #[.int lo t, .int hi u, .int 1 v] }
  | .frz o u => h.get? a = some o ∧ ObjOk H h a u
  | .tbl ps => h.get? a = some { cls := .none, data := .fields ps }
  | .met f x => h.get? a = some (PySem.W.methodObj (.ref f) (.ref x))
  | .ext φ => φ h ∧ (∃ o, h.get? a = some o) ∧ ∀ h1 h2 : Heap, φ h1 → (∀ o, h1.get? a = some o → h2.get? a = some o) → φ h2
def HOk (H : Hp) (h : Heap) : Prop := ∀ a o, H a = some o → ObjOk P w H h a o
end
section
variable {P : Program} {w : World} {H H' : Hp} {h h' : Heap} {a : Addr} {o : HO}
theorem ObjOk.lt (x : ObjOk P w H h a o) : a < h.objs.size := by
  cases o with
  | lst xs => obtain ⟨_, _, _, _, e⟩ := x; exact Heap.lt_size e
  | tup xs => obtain ⟨_, _, _, p⟩ := x; exact p.lt
  | dK kvs => obtain ⟨_, _, _, _, o, _, _, e, _⟩ := x; exact Heap.lt_size e
  | dT kvs => obtain ⟨_, _, _, _, o, _, _, e, _⟩ := x; exact Heap.lt_size e
  | set S n => obtain ⟨o, _, _, _, e, _⟩ := x; exact Heap.lt_size e
  | ins C dx fs => obtain ⟨_, _, _, e, _⟩ := x; exact Heap.lt_size e
  | own y => obtain ⟨_, e⟩ := x; exact Heap.lt_size e
  | xd fs => obtain ⟨_, ⟨_, _, _, e, _⟩, _⟩ := x; exact Heap.lt_size e
  | rng lo hi => obtain ⟨_, _, _, e⟩ := x; exact Heap.lt_size e
  | frz ob u => obtain ⟨e, _⟩ := x; exact Heap.lt_size e
  | tbl ps => exact Heap.lt_size (show h.get? a = some _ from x)
  | met f y => exact Heap.lt_size (show h.get? a = some _ from x)
  | ext φ => obtain ⟨_, ⟨_, e⟩, _⟩ := x; exact Heap.lt_size e
theorem Paired.mapP {α β : Type} {F G : α → β → Prop} : ∀ {l₁ : List α} {l₂ : List β}, Paired F l₁ l₂ → (∀ a b, F a b → G a b) → Paired G l₁ l₂
  | _, _, .nil, _ => .nil
  | _, _, .cons r t, f => .cons (f _ _ r) (Paired.mapP t f)
theorem ObjOk.stay (x : ObjOk P w H h a o) (k : ∀ b u, (b = a ∨ H b = some (.own a)) → h.get? b = some u → h'.get? b = some u)
    (ho : ∀ b, H b = some (.own a) → H' b = some (.own a)) (ht : ∀ b xs, H b = some (.tup xs) → H' b = some (.tup xs)) : ObjOk P w H' h' a o := by
  induction o with
  | lst xs => obtain ⟨z, its, n, r, e⟩ := x; exact ⟨z, its, n, r, k _ _ (.inl rfl) e⟩
  | tup xs => obtain ⟨z, its, r, ob, e, c⟩ := x; exact ⟨z, its, r, ob, k _ _ (.inl rfl) e, c⟩
  | dK kvs => obtain ⟨z, y, vs, r, ob, es, ep, e, c⟩ := x; exact ⟨z, y, vs, r, ob, es, ep, k _ _ (.inl rfl) e, c⟩
  | dT kvs =>
    obtain ⟨z, y, xs, r, ob, es, ep, e, c⟩ := x
    exact ⟨z, y, xs, Paired.mapP r fun p q z => ⟨z.1, ht _ _ z.2.1, z.2.2⟩, ob, es, ep, k _ _ (.inl rfl) e, c⟩
  | set S n => obtain ⟨ob, es, ep, t, e, c⟩ := x; exact ⟨ob, es, ep, t, k _ _ (.inl rfl) e, c⟩
  | ins C dx fs =>
    obtain ⟨d, z, ne, e, mA, ⟨od, es, ep, e2, c⟩, r⟩ := x
    exact ⟨ho _ d, z, ne, k _ _ (.inl rfl) e, mA, ⟨od, es, ep, k _ _ (.inr d) e2, c⟩, r⟩
  | own y => obtain ⟨ob, e⟩ := x; exact ⟨ob, k _ _ (.inl rfl) e⟩
  | xd fs => obtain ⟨mA, ⟨od, es, ep, e, c⟩, r⟩ := x; exact ⟨mA, ⟨od, es, ep, k _ _ (.inl rfl) e, c⟩, r⟩
  | rng lo hi => obtain ⟨t, u, v, e⟩ := x; exact ⟨t, u, v, k _ _ (.inl rfl) e⟩
  | frz ob u ih => obtain ⟨e, q⟩ := x; exact ⟨k _ _ (.inl rfl) e, ih q⟩
  | tbl ps =>
    have e : h.get? a = some { cls := .none, data := .fields ps } := x
    show h'.get? a = some { cls := .none, data := .fields ps }
    exact k a _ (.inl rfl) e
  | met f y =>
    have e : h.get? a = some (PySem.W.methodObj (.ref f) (.ref y)) := x
    show h'.get? a = some (PySem.W.methodObj (.ref f) (.ref y))
    exact k a _ (.inl rfl) e
  | ext φ => obtain ⟨p, ⟨o, e⟩, st⟩ := x; exact ⟨st _ _ p fun o q => k _ _ (.inl rfl) q, ⟨o, k _ _ (.inl rfl) e⟩, st⟩
theorem HOk.lt (x : HOk P w H h) (e : H a = some o) : a < h.objs.size := (x a o e).lt
theorem HOk.fresh (x : HOk P w H h) (e : h.objs.size ≤ a) : H a = none := by
  cases q : H a with
  | none => rfl
  | some u => exact absurd (Nat.lt_of_lt_of_le (x.lt q) e) (Nat.lt_irrefl _)
theorem HOk.kept (x : HOk P w H h) (k : ∀ b u, h.get? b = some u → h'.get? b = some u) : HOk P w H h' := fun a o e =>
  (x a o e).stay (fun b u _ q => k b u q) (fun _ q => q) fun _ _ q => q
theorem HOk.laid (x : HOk P w H h) (k : ∀ b u, h.get? b = some u → h'.get? b = some u) (hp : h.objs.size ≤ a) (new : ObjOk P w (upd H a o) h' a o) : HOk P w (upd H a o) h' := fun b u e => by
  have hn := x.fresh hp
  by_cases hb : b = a
  · subst hb; rw [upd_same] at e; cases e; exact new
  · rw [upd_ne hb] at e
    exact (x b u e).stay (fun c v _ q => k c v q) (fun c q => by rw [upd_ne (ne_of_none q hn)]; exact q) fun c xs q => by rw [upd_ne (ne_of_none q hn)]; exact q
end
def Rd (H : Hp) (a : Addr) (u : HO) : Prop := H a = some u ∨ ∃ o, H a = some (.frz o u)
theorem Rd.ok {P : Program} {w : World} {H : Hp} {h : Heap} {a : Addr} {u : HO} (r : Rd H a u) (x : HOk P w H h) : ObjOk P w H h a u := by
  rcases r with r | ⟨o, r⟩
  · exact x a u r
  · obtain ⟨_, q⟩ := x a _ r
    exact q
def Mut : Option HO → Prop
  | some (.lst _) => True
  | some (.dK _) => True
  | some (.dT _) => True
  | some (.set _ _) => True
  | some (.ins _ _ _) => True
  | some (.ext _) => True
  | _ => False
section
variable {P : Program} {w : World} {H : Hp} {h h' : Heap} {x e : Addr} {o' : HO}
theorem HOk.write (ok : HOk P w H h) (mu : Mut (H x)) (he : e = x ∨ H e = some (.own x)) (k : ∀ b u, b ≠ e → h.get? b = some u → h'.get? b = some u) (heo : ∃ u, h'.get? e = some u)
    (new : ObjOk P w (upd H x o') h' x o') : HOk P w (upd H x o') h' := fun b u q => by
  have nown : ∀ c y, H c = some (.own y) → c ≠ x := fun c y r z => by subst z; rw [r] at mu; exact mu
  have ntup : ∀ c xs, H c = some (.tup xs) → c ≠ x := fun c xs r z => by subst z; rw [r] at mu; exact mu
  by_cases hb : b = x
  · subst hb; rw [upd_same] at q; cases q; exact new
  · rw [upd_ne hb] at q
    by_cases hbe : b = e
    · have q' : H b = some (.own x) := by
        rcases he with z | z
        · exact absurd (hbe.trans z) hb
        · rw [hbe]; exact z
      rw [q] at q'; cases q'
      obtain ⟨v, hv⟩ := heo
      exact ⟨v, by rw [hbe]; exact hv⟩
    · refine (ok b u q).stay (fun c v hc r => k c v ?_ r) (fun c r => by rw [upd_ne (nown c b r)]; exact r) fun c xs r => by rw [upd_ne (ntup c xs r)]; exact r
      rcases hc with rfl | hc
      · exact hbe
      · rintro rfl
        rcases he with z | z
        · exact nown c b hc z
        · rw [hc] at z; cases z; exact hb rfl
end
structure Un (fs ex : List Addr) (H H' : Hp) (h h' : Heap) : Prop where
  keep : ∀ b o, h.get? b = some o → H b = none → b ∉ fs → b ∉ ex → h'.get? b = some o
  slot : ∀ b o, h.get? b = some o → H b = none → b ∈ fs → b ∉ ex → ∃ sl, h'.get? b = some { o with slots := sl }
  free : ∀ b o, h.get? b = some o → H b = none → b ∉ ex → H' b = none
  there : ∀ b o, h.get? b = some o → b ∉ ex → ∃ o', h'.get? b = some o'
  tups : ∀ b xs, H b = some (.tup xs) → H' b = some (.tup xs)
  frzs : ∀ b o u, H b = some (.frz o u) → H' b = some (.frz o u)
  tbls : ∀ b ps, H b = some (.tbl ps) → ∃ more, H' b = some (.tbl (ps ++ more))
section
variable {fs fs' ex ex' : List Addr} {H H1 H2 : Hp} {h h1 h2 h' : Heap} {a x e : Addr} {o : HO}
theorem Un.any (u : Un fs ex H H1 h h1) {b : Addr} {ob : Obj} (q : h.get? b = some ob) (n : H b = none) (hx : b ∉ ex) : ∃ sl, h1.get? b = some { ob with slots := sl } := by
  by_cases hb : b ∈ fs
  · exact u.slot b ob q n hb hx
  · exact ⟨ob.slots, u.keep b ob q n hb hx⟩
theorem Un.kept (k : ∀ b u, h.get? b = some u → h'.get? b = some u) : Un fs ex H H h h' :=
  ⟨fun b ob q _ _ _ => k b ob q, fun b ob q _ _ _ => ⟨ob.slots, k b ob q⟩, fun _ _ _ n _ => n, fun b ob q _ => ⟨ob, k b ob q⟩, fun _ _ q => q, fun _ _ _ q => q, fun _ ps q => ⟨#[], by rw [q]; simp⟩⟩
theorem Un.refl : Un fs ex H H h h := Un.kept fun _ _ q => q
theorem Un.laid (k : ∀ b u, h.get? b = some u → h'.get? b = some u) (hp : h.objs.size ≤ a) (hn : H a = none) : Un fs ex H (upd H a o) h h' where
  keep := fun b u q _ _ _ => k b u q
  slot := fun b u q _ _ _ => ⟨u.slots, k b u q⟩
  free := fun b u q n _ => by rw [upd_ne (Nat.ne_of_lt (Nat.lt_of_lt_of_le (Heap.lt_size q) hp))]; exact n
  there := fun b u q _ => ⟨u, k b u q⟩
  tups := fun b xs q => by rw [upd_ne (ne_of_none q hn)]; exact q
  frzs := fun b u xs q => by rw [upd_ne (ne_of_none q hn)]; exact q
  tbls := fun b ps q => ⟨#[], by rw [upd_ne (ne_of_none q hn), q]; simp⟩
theorem Un.write (mu : Mut (H x)) (he : e = x ∨ H e = some (.own x)) (k : ∀ b u, b ≠ e → h.get? b = some u → h'.get? b = some u) (heo : ∃ u, h'.get? e = some u) : Un fs ex H (upd H x o) h h' := by
  have hx : ∀ b, H b = none → b ≠ x := fun b n z => by subst z; rw [n] at mu; exact mu
  have hb : ∀ b, H b = none → b ≠ e := fun b n z => by
    subst z
    rcases he with r | r
    · exact hx b n r
    · rw [n] at r; cases r
  have hm : ∀ b u, H b = some u → ¬ Mut (some u) → b ≠ x := fun b u q nm z => by subst z; rw [q] at mu; exact nm mu
  refine ⟨fun b u q n _ _ => k b u (hb b n) q, fun b u q n _ _ => ⟨u.slots, k b u (hb b n) q⟩, fun b u q n _ => by rw [upd_ne (hx b n)]; exact n, fun b u q _ => ?_,
    fun b xs q => by rw [upd_ne (hm b _ q fun z => z)]; exact q, fun b u xs q => by rw [upd_ne (hm b _ q fun z => z)]; exact q, fun b ps q => ⟨#[], by rw [upd_ne (hm b _ q fun z => z), q]; simp⟩⟩
  by_cases hbe : b = e
  · subst hbe; exact heo
  · exact ⟨u, k b u hbe q⟩
end
def trk (h : Heap) (H : Hp) : List Addr := (List.range h.objs.size).filter fun a => (H a).isSome
def hidT (h : Heap) (H : Hp) : Heap := PySem.W.hideAll h (trk h H)
theorem hidT_size (h : Heap) (H : Hp) : (hidT h H).objs.size = h.objs.size := PySem.W.hideAll_size _ _
theorem hidT_get {h : Heap} {H : Hp} {b : Addr} {o : Obj} (e : h.get? b = some o) (n : H b = none) : (hidT h H).get? b = some o :=
  PySem.W.hideAll_get _ e fun hm => by
    have q : (H b).isSome = true := (List.mem_filter.mp hm).2
    rw [n] at q; simp at q
theorem of_hidT {h : Heap} {H : Hp} {b : Addr} {o : Obj} (e : (hidT h H).get? b = some o) : h.get? b = some o ∧ H b = none := by
  have e' : h.get? b = some o := PySem.W.of_hideAll (trk h H) e
  refine ⟨e', ?_⟩
  cases q : H b with
  | none => rfl
  | some x =>
    have hm : b ∈ trk h H := List.mem_filter.mpr ⟨List.mem_range.mpr (Heap.lt_size e'), by simp [q]⟩
    have z : (hidT h H).get? b = none := PySem.W.hideAll_none (trk h H) hm
    rw [z] at e; cases e
end L2
namespace L2
open PySem PySem.Spec PyProof.Rows
structure Mod (K : PySem.W.Frag) (mg : Str → Option Value) (base : Heap) : Prop where
  kin : K.In base
  glob : base.Ns mainGlobals mg
  blt : ∃ mb, base.Ns builtinsNs mb ∧ ∀ x : Str, x ≠ "__name__" → mb x = bootBuiltins x
  nolimit : base.NoLimit
  seer : base.NoSeer
structure Cx where
  prog : Program
  w : World
  K : PySem.W.Frag
  mg : Str → Option Value
  base : Heap
  A : Around
  N : List Str
  s₀ : Shared
  H₀ : Hp
  env : Env
  outer : List Env
  stack : List Env
  ex : List Addr
  fn : Str → Bool
  calm : Bool
  pn : List (Addr × Obj)
  xe : Value → Shared → Prop
def frs (l : List Env) : List Addr := l.filterMap (·.frame)
abbrev Cx.fs (X : Cx) : List Addr := frs X.outer
def Vis (sc : Scope) (x : Str) : Prop := sc.names.lookup x = some .local ∨ sc.names.lookup x = some .cell ∨ sc.names.lookup x = some .free
def Loc (sc : Scope) (x : Str) : Prop := sc.names.lookup x = some .local ∨ sc.names.lookup x = some .cell
def Look (env : Env) (h : Heap) (m : Str → Option Value) (x : Str) (u : Value) : Prop :=
  (env.kindOf x = some .local ∧ m x = some u) ∨ ((env.kindOf x = some .cell ∨ env.kindOf x = some .free) ∧ ∃ c, env.cells.lookup x = some c ∧ h.IsCell c (some u))
structure Cx.Ok (X : Cx) : Prop where
  mod : Mod X.K X.mg X.base
  kind : X.env.scope.kind = .function
  glob : X.env.globals = mainGlobals
  blt : X.env.builtins = builtinsNs
  above : X.s₀.heap.objs.size ≤ X.env.locals
  inj : ∀ x y c, X.env.cells.lookup x = some c → X.env.cells.lookup y = some c → x = y
  has : ∀ x, (X.env.kindOf x = some .cell ∨ X.env.kindOf x = some .free) → ∃ c, X.env.cells.lookup x = some c
  cab : ∀ x c, X.fn x = true → X.env.cells.lookup x = some c → X.s₀.heap.objs.size ≤ c
  hd : X.calm = true → X.A.handled = none
  frames : X.A.frames = some X.stack
  stk : X.stack = X.outer ∨ (X.stack = X.env :: X.outer ∧ X.env.frame = some X.env.locals)
  exf : ∀ b ∈ X.ex, b ≠ X.env.locals ∧ ∀ x c, X.env.cells.lookup x = some c → c ≠ b
  bs : ∀ b o, X.base.get? b = some o → X.s₀.heap.get? b = some o ∧ X.H₀ b = none
  bsz : X.base.objs.size ≤ X.s₀.heap.objs.size
  noex : ∀ b o, X.base.get? b = some o → b ∉ X.ex
  exfs : ∀ b ∈ X.ex, b ∉ X.fs
  funs : X.s₀.heap.FunFrames X.base X.outer
  frf : ∀ b ∈ X.fs, X.H₀ b = none
structure Inv (X : Cx) (pins : List (Addr × Obj)) (σ : List (Option V)) (H : Hp) (s : Shared) : Prop where
  ok : X.Ok
  os : s.os = X.s₀.os
  bare : AllBare s.gens
  base : Un X.fs X.ex X.H₀ H X.s₀.heap s.heap
  loc : ∃ m, s.heap.Ns X.env.locals m ∧ ∀ (i : Nat) (x : Str) (v : V), X.N[i]? = some x → σ[i]? = some (some v) → Vis X.env.scope x → ∃ u, RelV v u ∧ Look X.env s.heap m x u
  cell : ∀ x c, X.env.cells.lookup x = some c → ∃ v, s.heap.IsCell c v
  free : H X.env.locals = none
  freeC : ∀ x c, X.env.cells.lookup x = some c → H c = none
  pin : ∀ p ∈ X.pn ++ pins, s.heap.get? p.1 = some p.2 ∧ H p.1 = none ∧ p.1 ≠ X.env.locals ∧ p.1 ∉ X.fs ∧ ∀ v, p.2.data ≠ .cell v
  hok : HOk X.prog X.w H s.heap
  len : σ.length = X.N.length
section
variable {X : Cx} {pins : List (Addr × Obj)} {σ : List (Option V)} {H H' : Hp} {s : Shared} {h' : Heap}
theorem Cx.Ok.nofr (ok : X.Ok) {b : Addr} {o : Obj} (e : X.base.get? b = some o) : b ∉ X.fs := fun hb => by
  have := (ok.funs.mem hb).1
  rw [e] at this; cases this
theorem Inv.bs (I : Inv X pins σ H s) : ∀ b o, X.base.get? b = some o → s.heap.get? b = some o ∧ H b = none := fun b o e =>
  ⟨I.base.keep b o (I.ok.bs b o e).1 (I.ok.bs b o e).2 (I.ok.nofr e) (I.ok.noex b o e), I.base.free b o (I.ok.bs b o e).1 (I.ok.bs b o e).2 (I.ok.noex b o e)⟩
theorem Inv.bk (I : Inv X pins σ H s) : ∀ b o, X.base.get? b = some o → s.heap.get? b = some o := fun b o e => (I.bs b o e).1
theorem Inv.mod (I : Inv X pins σ H s) : Mod X.K X.mg X.base := I.ok.mod
theorem Inv.kIn (I : Inv X pins σ H s) : X.K.In s.heap := I.ok.mod.kin.keeps I.bk
theorem Inv.nolimit (I : Inv X pins σ H s) : s.heap.NoLimit := I.ok.mod.nolimit.keeps I.bk
theorem Inv.lt (I : Inv X pins σ H s) : X.env.locals < s.heap.objs.size := let ⟨_, hn, _⟩ := I.loc; hn.lt
theorem Inv.sz (I : Inv X pins σ H s) : X.s₀.heap.objs.size ≤ s.heap.objs.size := Nat.le_trans I.ok.above (Nat.le_of_lt I.lt)
theorem Inv.nofs (I : Inv X pins σ H s) {a : Addr} (h : s.heap.objs.size ≤ a) : a ∉ X.fs := fun hb => by
  obtain ⟨_, o, ho, _⟩ := I.ok.funs.mem hb
  exact absurd (Nat.lt_of_lt_of_le (Heap.lt_size ho) (Nat.le_trans I.sz h)) (Nat.lt_irrefl _)
theorem Inv.cne (I : Inv X pins σ H s) : ∀ x c, X.env.cells.lookup x = some c → c ≠ X.env.locals := fun x c e z => by
  obtain ⟨v, o, ho, hd⟩ := I.cell x c e
  obtain ⟨m, ⟨o', es, ep, ho', hd', _⟩, _⟩ := I.loc
  rw [z, ho'] at ho; cases ho; rw [hd'] at hd; cases hd
theorem Inv.funs (I : Inv X pins σ H s) : s.heap.FunFrames X.base X.outer := by
  have all : ∀ (l : List Env), (∀ b ∈ frs l, b ∈ X.fs) → X.s₀.heap.FunFrames X.base l → s.heap.FunFrames X.base l := by
    intro l
    induction l with
    | nil => intro _ _; trivial
    | cons env r ih =>
      intro hs hl
      obtain ⟨hk, ⟨L, o, hf, hn, ho, hd⟩, hr⟩ := hl
      have hL : L ∈ X.fs := hs L (by unfold frs; rw [List.filterMap_cons, hf]; exact List.mem_cons_self)
      obtain ⟨sl, e⟩ := I.base.slot L o ho (I.ok.frf L hL) hL fun z => I.ok.exfs L z hL
      exact ⟨hk, ⟨L, _, hf, hn, e, hd⟩, ih (fun b hb => hs b (by unfold frs; rw [List.filterMap_cons, hf]; exact List.mem_cons_of_mem _ hb)) hr⟩
  exact all X.outer (fun _ hb => hb) I.ok.funs
theorem Inv.stack (I : Inv X pins σ H s) : s.heap.FunFrames X.base X.stack := by
  rcases I.ok.stk with e | ⟨e, hf⟩
  · rw [e]; exact I.funs
  · rw [e]
    obtain ⟨m, hn, _⟩ := I.loc
    refine .cons (by rw [I.ok.kind]; decide) hf hn ?_ I.funs
    exact Heap.get?_none_of_le (Nat.le_trans I.ok.bsz I.ok.above)
theorem Inv.stkSub (I : Inv X pins σ H s) : ∀ b ∈ frs X.stack, b ∈ X.env.locals :: X.fs := fun b hb => by
  rcases I.ok.stk with e | ⟨e, hf⟩
  · rw [e] at hb; exact List.mem_cons_of_mem _ hb
  · rw [e] at hb
    unfold frs at hb
    rw [List.filterMap_cons, hf] at hb
    exact hb
theorem Inv.stkFree (I : Inv X pins σ H s) : ∀ b ∈ frs X.stack, H b = none := fun b hb => by
  rcases List.mem_cons.mp (I.stkSub b hb) with e | hb
  · rw [e]; exact I.free
  · obtain ⟨_, o, ho, _⟩ := I.ok.funs.mem hb
    exact I.base.free b o ho (I.ok.frf b hb) fun z => I.ok.exfs b z hb
theorem Inv.step {g' : Array GenState} {t' : Nat} {d' : Drawn} {ch : List Addr} (I : Inv X pins σ H s)
    (hch : ∀ b ∈ ch, (b ∈ X.ex ∨ X.s₀.heap.objs.size ≤ b) ∧ b ≠ X.env.locals ∧ (∀ x c, X.env.cells.lookup x = some c → c ≠ b) ∧ ∀ p ∈ X.pn ++ pins, p.1 ≠ b)
    (keep : ∀ b o, b ≠ X.env.locals → b ∉ X.fs → b ∉ ch → s.heap.get? b = some o → H b = none → h'.get? b = some o)
    (slot : ∀ b o, b ≠ X.env.locals → b ∈ X.fs → b ∉ ch → s.heap.get? b = some o → H b = none → ∃ sl, h'.get? b = some { o with slots := sl }) (free : ∀ b o, b ∉ ch → s.heap.get? b = some o → H b = none → H' b = none)
    (there : ∀ b o, b ∉ ch → s.heap.get? b = some o → ∃ o', h'.get? b = some o')
    (tups : ∀ b xs, H b = some (.tup xs) → H' b = some (.tup xs)) (frzs : ∀ b o u, H b = some (.frz o u) → H' b = some (.frz o u)) (tbls : ∀ b ps, H b = some (.tbl ps) → ∃ more, H' b = some (.tbl (ps ++ more)))
    (ns : ∀ m, s.heap.Ns X.env.locals m → h'.Ns X.env.locals m) (hok : HOk X.prog X.w H' h') (hg : AllBare g') :
    Inv X pins σ H' { s with heap := h', gens := g', drawn := d', toks := t' } := by
  have neL : ∀ b o, X.s₀.heap.get? b = some o → b ≠ X.env.locals := fun b o e => Nat.ne_of_lt (Nat.lt_of_lt_of_le (Heap.lt_size e) I.ok.above)
  have neC : ∀ b o, X.s₀.heap.get? b = some o → b ∉ X.ex → b ∉ ch := fun b o e hx hb => by
    rcases (hch b hb).1 with z | z
    · exact hx z
    · exact absurd (Nat.lt_of_lt_of_le (Heap.lt_size e) z) (Nat.lt_irrefl _)
  have cellK : ∀ x c, X.env.cells.lookup x = some c → ∀ v, s.heap.IsCell c v → h'.IsCell c v := fun x c e v ⟨o, ho, hd⟩ => by
    have nch : c ∉ ch := fun z => (hch c z).2.2.1 x c e rfl
    by_cases hc : c ∈ X.fs
    · obtain ⟨sl, q⟩ := slot c o (I.cne x c e) hc nch ho (I.freeC x c e)
      exact ⟨_, q, hd⟩
    · exact ⟨o, keep c o (I.cne x c e) hc nch ho (I.freeC x c e), hd⟩
  refine ⟨I.ok, I.os, hg, ⟨fun b o e n hb hx => ?_, fun b o e n hb hx => ?_, fun b o e n hx => ?_, fun b o e hx => ?_, fun b xs e => tups b xs (I.base.tups b xs e), fun b o xs e => frzs b o xs (I.base.frzs b o xs e), fun b ps e => ?_⟩, ?_, fun x c e => ?_, ?_, fun x c e => ?_, fun p hp => ?_, hok, I.len⟩
  · exact keep b o (neL b o e) hb (neC b o e hx) (I.base.keep b o e n hb hx) (I.base.free b o e n hx)
  · obtain ⟨sl, e1⟩ := I.base.slot b o e n hb hx
    obtain ⟨sl', e2⟩ := slot b _ (neL b o e) hb (neC b o e hx) e1 (I.base.free b o e n hx)
    exact ⟨sl', e2⟩
  · obtain ⟨o', e1⟩ := I.base.there b o e hx
    exact free b o' (neC b o e hx) e1 (I.base.free b o e n hx)
  · obtain ⟨o', e1⟩ := I.base.there b o e hx
    exact there b o' (neC b o e hx) e1
  · obtain ⟨m1, e1⟩ := I.base.tbls b ps e
    obtain ⟨m2, e2⟩ := tbls b _ e1
    exact ⟨m1 ++ m2, by rw [e2, Array.append_assoc]⟩
  · obtain ⟨m, hn, hl⟩ := I.loc
    refine ⟨m, ns m hn, fun i x v e1 e2 e3 => ?_⟩
    obtain ⟨u, r, l⟩ := hl i x v e1 e2 e3
    refine ⟨u, r, ?_⟩
    rcases l with l | ⟨k, c, e, z⟩
    · exact .inl l
    · exact .inr ⟨k, c, e, cellK x c e _ z⟩
  · obtain ⟨v, z⟩ := I.cell x c e
    exact ⟨v, cellK x c e v z⟩
  · obtain ⟨m, ⟨o, _, _, ho, _⟩, _⟩ := I.loc
    exact free _ o (fun z => (hch _ z).2.1 rfl) ho I.free
  · obtain ⟨v, o, ho, hd⟩ := I.cell x c e
    exact free c o (fun z => (hch c z).2.2.1 x c e rfl) ho (I.freeC x c e)
  · obtain ⟨e, n, ne, nf, d⟩ := I.pin p hp
    have nch : p.1 ∉ ch := fun z => (hch p.1 z).2.2.2 p hp rfl
    exact ⟨keep p.1 p.2 ne nf nch e n, free p.1 p.2 nch e n, ne, nf, d⟩
theorem Inv.un {t' : Nat} (I : Inv X pins σ H s) (u : Un X.fs [] H H' s.heap h') (hok : HOk X.prog X.w H' h') : Inv X pins σ H' { s with heap := h', toks := t' } := by
  obtain ⟨m, ⟨o, es, ep, ho, r⟩, _⟩ := id I.loc
  obtain ⟨sl, hL⟩ := u.any ho I.free (by simp)
  exact I.step (g' := s.gens) (d' := s.drawn) (ch := []) (fun _ z => nomatch z) (fun b o _ hb _ e n => u.keep b o e n hb (by simp)) (fun b o _ hb _ e n => u.slot b o e n hb (by simp)) (fun b o _ e n => u.free b o e n (by simp)) (fun b o _ e => u.there b o e (by simp)) u.tups u.frzs u.tbls (fun m' hm => by
    obtain ⟨o', es', ep', ho', r'⟩ := hm
    rw [ho] at ho'; cases ho'
    exact ⟨_, es', ep', hL, r'⟩) hok I.bare
theorem Inv.call {g' : Array GenState} {t' : Nat} {d' : Drawn} {ch : List Addr} (I : Inv X pins σ H s) (u : Un (frs X.stack) ch H H' s.heap h') (hok : HOk X.prog X.w H' h') (hg : AllBare g')
    (hch : ∀ b ∈ ch, (b ∈ X.ex ∨ X.s₀.heap.objs.size ≤ b) ∧ b ≠ X.env.locals ∧ (∀ x c, X.env.cells.lookup x = some c → c ≠ b) ∧ ∀ p ∈ X.pn ++ pins, p.1 ≠ b) :
    Inv X pins σ H' { s with heap := h', gens := g', drawn := d', toks := t' } := by
  obtain ⟨m, ⟨o, es, ep, ho, r⟩, _⟩ := id I.loc
  obtain ⟨sl, hL⟩ := u.any ho I.free fun z => (hch _ z).2.1 rfl
  exact I.step (ch := ch) hch (fun b o hL hb hc e n => u.keep b o e n (fun z => (List.mem_cons.mp (I.stkSub b z)).elim hL hb) hc) (fun b o _ _ hc e n => u.any e n hc) (fun b o hc e n => u.free b o e n hc) (fun b o hc e => u.there b o e hc) u.tups u.frzs u.tbls (fun m' hm => by
    obtain ⟨o', es', ep', ho', r'⟩ := hm
    rw [ho] at ho'; cases ho'
    exact ⟨_, es', ep', hL, r'⟩) hok hg
theorem Inv.turned {t' : Nat} {it : Addr} (I : Inv X pins σ H s) (k : ∀ b o, b ≠ it → s.heap.get? b = some o → h'.get? b = some o) (hn : H it = none) (hL : it ≠ X.env.locals)
    (h1 : it ∈ X.ex ∨ X.s₀.heap.objs.size ≤ it) (h2 : ∀ x c, X.env.cells.lookup x = some c → c ≠ it) (h3 : ∀ p ∈ X.pn ++ pins, p.1 ≠ it) : Inv X pins σ H { s with heap := h', toks := t' } := by
  have nit : ∀ b u, H b = some u → b ≠ it := fun b u e z => by rw [z, hn] at e; cases e
  refine I.step (g' := s.gens) (d' := s.drawn) (ch := [it]) (fun b hb => ?_) (fun b o _ _ hc e _ => k b o (fun z => hc (by simp [z])) e) (fun b o _ _ hc e _ => ⟨o.slots, k b o (fun z => hc (by simp [z])) e⟩) (fun _ _ _ _ n => n)
    (fun b o hc e => ⟨o, k b o (fun z => hc (by simp [z])) e⟩) (fun _ _ e => e) (fun _ _ _ e => e) (fun b ps e => ⟨#[], by rw [e]; simp⟩) (fun m hm => ?_) (fun b u e => ?_) I.bare
  · have e : b = it := by simpa using hb
    subst e
    exact ⟨h1, hL, h2, h3⟩
  · obtain ⟨o, es, ep, ho, r⟩ := hm
    exact ⟨o, es, ep, k _ o (Ne.symm hL) ho, r⟩
  · refine (I.hok b u e).stay (fun c v hc q => k c v ?_ q) (fun _ q => q) fun _ _ q => q
    rcases hc with z | z
    · rw [z]; exact nit b u e
    · exact nit c _ z
theorem Inv.tok (I : Inv X pins σ H s) (t : Nat) : Inv X pins σ H { s with toks := t } := I.un (h' := s.heap) (t' := t) Un.refl I.hok
theorem Inv.kept {t' : Nat} (I : Inv X pins σ H s) (k : ∀ b u, s.heap.get? b = some u → h'.get? b = some u) : Inv X pins σ H { s with heap := h', toks := t' } := I.un (Un.kept k) (I.hok.kept k)
theorem Inv.laid {a : Addr} {o : HO} {t' : Nat} (I : Inv X pins σ H s) (k : ∀ b u, s.heap.get? b = some u → h'.get? b = some u) (hp : s.heap.objs.size ≤ a) (new : ObjOk X.prog X.w (upd H a o) h' a o) :
    Inv X pins σ (upd H a o) { s with heap := h', toks := t' } := I.un (Un.laid k hp (I.hok.fresh hp)) (I.hok.laid k hp new)
theorem Inv.write {x e : Addr} {o : HO} {t' : Nat} (I : Inv X pins σ H s) (mu : Mut (H x)) (he : e = x ∨ H e = some (.own x)) (k : ∀ b u, b ≠ e → s.heap.get? b = some u → h'.get? b = some u) (heo : ∃ u, h'.get? e = some u)
    (new : ObjOk X.prog X.w (upd H x o) h' x o) : Inv X pins σ (upd H x o) { s with heap := h', toks := t' } := I.un (Un.write mu he k heo) (I.hok.write mu he k heo new)
theorem Inv.pins_of {pins' : List (Addr × Obj)} (I : Inv X pins σ H s) (h : ∀ p ∈ pins', s.heap.get? p.1 = some p.2 ∧ H p.1 = none ∧ p.1 ≠ X.env.locals ∧ p.1 ∉ X.fs ∧ ∀ v, p.2.data ≠ .cell v) : Inv X pins' σ H s :=
  ⟨I.ok, I.os, I.bare, I.base, I.loc, I.cell, I.free, I.freeC, fun p hp => (List.mem_append.mp hp).elim (fun z => I.pin p (List.mem_append_left _ z)) (h p), I.hok, I.len⟩
theorem nodup_ix {N : List Str} (hN : N.Nodup) {i j : Nat} {x : Str} (a : N[i]? = some x) (b : N[j]? = some x) : i = j := by
  obtain ⟨h1, e1⟩ := List.getElem?_eq_some_iff.mp a
  obtain ⟨h2, e2⟩ := List.getElem?_eq_some_iff.mp b
  exact (List.getElem_inj hN).mp (e1.trans e2.symm)
theorem store_ok2 {M : Model} {A : Around} {E : Value → Shared → Prop} {i : Nat} {x : Str} {v : V} {u : Value} {Q : Unit → Shared → Prop} (I : Inv X pins σ H s) (hN : X.N.Nodup) (hi : X.N[i]? = some x) (hx : Loc X.env.scope x) (r : RelV v u)
    (h : ∀ s', Inv X pins (σ.set i (some v)) H s' → (∃ a, Heap.SameBut a s.heap s'.heap ∧ (a = X.env.locals ∨ X.env.cells.lookup x = some a)) → Q () s') (hf : X.fn x = true ∨ X.env.scope.names.lookup x = some .local := by first | exact .inl rfl | exact .inr rfl | assumption) : wpAny M A (storeName X.env x u) Q E s := by
  obtain ⟨m, hn, hl⟩ := id I.loc
  have hcls : (X.env.scope.kind == .class || (X.env.scope.kind == .module && X.env.locals != X.env.globals)) = false := by rw [I.ok.kind]; rfl
  have hiσ : i < σ.length := by rw [I.len]; exact (List.getElem?_eq_some_iff.mp hi).1
  have cne := I.cne
  have tracked : ∀ {a : Addr} {h' : Heap}, (∃ o, s.heap.get? a = some o ∧ H a = none) → Heap.SameBut a s.heap h' → HOk X.prog X.w H h' := fun {a h'} ha hs b ob e => by
    obtain ⟨_, _, hfree⟩ := ha
    refine (I.hok b ob e).stay (fun c w' hc q => (hs.2 c ?_).trans q) (fun _ q => q) fun _ _ q => q
    rintro rfl
    rcases hc with rfl | hc
    · rw [hfree] at e; cases e
    · rw [hfree] at hc; cases hc
  rcases hx with hk | hk
  · refine wpAny_storeName_local hk hn (fun h' hn' hs => ?_) hcls
    obtain ⟨oL, _, _, hoL, _⟩ := id hn
    refine h _ ⟨I.ok, I.os, I.bare, ⟨fun b o e n hb hx => ?_, fun b o e n hb hx => ?_, I.base.free, fun b o e hx => ?_, I.base.tups, I.base.frzs, I.base.tbls⟩, ⟨_, hn', fun j y v' e1 e2 e3 => ?_⟩, fun y c e => ?_, I.free, I.freeC, fun p hp => ?_, tracked ⟨oL, hoL, I.free⟩ hs, by simpa using I.len⟩ ⟨_, hs, .inl rfl⟩
    · exact (hs.2 b (Nat.ne_of_lt (Nat.lt_of_lt_of_le (Heap.lt_size e) I.ok.above))).trans (I.base.keep b o e n hb hx)
    · obtain ⟨sl, e1⟩ := I.base.slot b o e n hb hx
      exact ⟨sl, (hs.2 b (Nat.ne_of_lt (Nat.lt_of_lt_of_le (Heap.lt_size e) I.ok.above))).trans e1⟩
    · obtain ⟨o', e1⟩ := I.base.there b o e hx
      exact ⟨o', (hs.2 b (Nat.ne_of_lt (Nat.lt_of_lt_of_le (Heap.lt_size e) I.ok.above))).trans e1⟩
    · by_cases hj : j = i
      · subst hj
        rw [hi] at e1; cases e1
        rw [List.getElem?_set_self hiσ] at e2
        cases e2
        exact ⟨u, r, .inl ⟨hk, by simp⟩⟩
      · rw [List.getElem?_set_ne (Ne.symm hj)] at e2
        obtain ⟨u', r', q⟩ := hl j y v' e1 e2 e3
        refine ⟨u', r', ?_⟩
        rcases q with ⟨k, e⟩ | ⟨k, c, e, z⟩
        · refine .inl ⟨k, ?_⟩
          have : y ≠ x := fun e => hj (nodup_ix hN e1 (e ▸ hi))
          simp [this, e]
        · exact .inr ⟨k, c, e, z.sameBut hs (cne y c e)⟩
    · obtain ⟨w', z⟩ := I.cell y c e
      exact ⟨w', z.sameBut hs (cne y c e)⟩
    · obtain ⟨e, n, ne, nf, d⟩ := I.pin p hp
      exact ⟨(hs.2 p.1 ne).trans e, n, ne, nf, d⟩
  · have hfn : X.fn x = true := by
      rcases hf with z | z
      · exact z
      · rw [z] at hk; cases hk
    obtain ⟨c, hc⟩ := I.ok.has x (.inl hk)
    obtain ⟨w', z⟩ := I.cell x c hc
    refine wpAny_storeName_cell I.ok.kind hk hc z (fun h' hc' hs => ?_)
    obtain ⟨oc, hoc, hocd⟩ := id z
    refine h { s with heap := h' } ⟨I.ok, I.os, I.bare, ⟨fun b o e n hb hx => ?_, fun b o e n hb hx => ?_, I.base.free, fun b o e hx => ?_, I.base.tups, I.base.frzs, I.base.tbls⟩, ⟨m, hn.sameBut hs (Ne.symm (cne x c hc)), fun j y v' e1 e2 e3 => ?_⟩, fun y c' e => ?_, I.free, I.freeC, fun p hp => ?_, tracked ⟨oc, hoc, I.freeC x c hc⟩ hs, by simpa using I.len⟩ ⟨c, hs, .inr hc⟩
    · exact (hs.2 b (Nat.ne_of_lt (Nat.lt_of_lt_of_le (Heap.lt_size e) (I.ok.cab x c hfn hc)))).trans (I.base.keep b o e n hb hx)
    · obtain ⟨sl, e1⟩ := I.base.slot b o e n hb hx
      exact ⟨sl, (hs.2 b (Nat.ne_of_lt (Nat.lt_of_lt_of_le (Heap.lt_size e) (I.ok.cab x c hfn hc)))).trans e1⟩
    · obtain ⟨o', e1⟩ := I.base.there b o e hx
      exact ⟨o', (hs.2 b (Nat.ne_of_lt (Nat.lt_of_lt_of_le (Heap.lt_size e) (I.ok.cab x c hfn hc)))).trans e1⟩
    · by_cases hj : j = i
      · subst hj
        rw [hi] at e1; cases e1
        rw [List.getElem?_set_self hiσ] at e2
        cases e2
        exact ⟨u, r, .inr ⟨.inl hk, c, hc, hc'⟩⟩
      · rw [List.getElem?_set_ne (Ne.symm hj)] at e2
        obtain ⟨u', r', q⟩ := hl j y v' e1 e2 e3
        refine ⟨u', r', ?_⟩
        rcases q with q | ⟨k, c', e, z'⟩
        · exact .inl q
        · refine .inr ⟨k, c', e, z'.sameBut hs ?_⟩
          rintro rfl
          exact hj (nodup_ix hN e1 (I.ok.inj _ _ _ e hc ▸ hi))
    · by_cases hcc : c' = c
      · subst hcc; exact ⟨_, hc'⟩
      · obtain ⟨w2, z2⟩ := I.cell y c' e
        exact ⟨w2, z2.sameBut hs hcc⟩
    · obtain ⟨e, n, ne, nf, d⟩ := I.pin p hp
      refine ⟨(hs.2 p.1 ?_).trans e, n, ne, nf, d⟩
      intro q
      rw [q, hoc] at e
      have q' : oc = p.2 := Option.some.inj e
      exact d w' (by rw [← q']; exact hocd)
theorem store_ok {M : Model} {A : Around} {E : Value → Shared → Prop} {i : Nat} {x : Str} {v : V} {u : Value} {Q : Unit → Shared → Prop} (I : Inv X pins σ H s) (hN : X.N.Nodup) (hi : X.N[i]? = some x) (hx : Loc X.env.scope x) (r : RelV v u)
    (h : ∀ s', Inv X pins (σ.set i (some v)) H s' → Q () s') (hf : X.fn x = true ∨ X.env.scope.names.lookup x = some .local := by first | exact .inl rfl | exact .inr rfl | assumption) : wpAny M A (storeName X.env x u) Q E s :=
  store_ok2 I hN hi hx r (fun s' I' _ => h s' I') hf
theorem Inv.call' {s' : Shared} {ch : List Addr} (I : Inv X pins σ H s) (ho : s'.os = s.os) (u : Un (frs X.stack) ch H H' s.heap s'.heap) (hok : HOk X.prog X.w H' s'.heap) (hg : AllBare s'.gens)
    (hch : ∀ b ∈ ch, (b ∈ X.ex ∨ X.s₀.heap.objs.size ≤ b) ∧ b ≠ X.env.locals ∧ (∀ x c, X.env.cells.lookup x = some c → c ≠ b) ∧ ∀ p ∈ X.pn ++ pins, p.1 ≠ b) : Inv X pins σ H' s' := by
  obtain ⟨h', g', d', t', o'⟩ := s'
  have e : o' = s.os := ho
  subst e
  exact I.call (g' := g') (t' := t') (d' := d') u hok hg hch
end
abbrev XK := Value → Option Addr → Hp → Prop
abbrev St := List (Option V)
abbrev VK := V → Hp → Prop
abbrev TE := St → Hp → VK → Prop
abbrev TT := St → Hp → (Bool → Hp → Prop) → Prop
abbrev TA := St → Hp → (List V → Hp → Prop) → Prop
structure Ends where
  nx : St → Hp → Prop
  rt : VK
  bk : St → Hp → Prop := fun _ _ => False
  ct : St → Hp → Prop := fun _ _ => False
abbrev TS := Ends → St → Hp → Prop
def EP (X : Cx) (pins : List (Addr × Obj)) (σ : St) (Q : VK) (u : Value) (s' : Shared) : Prop := ∃ v H', Inv X pins σ H' s' ∧ RelV v u ∧ Q v H'
def TP (X : Cx) (pins : List (Addr × Obj)) (σ : St) (Q : Bool → Hp → Prop) (b : Bool) (s' : Shared) : Prop := ∃ H', Inv X pins σ H' s' ∧ Q b H'
def AP (X : Cx) (pins : List (Addr × Obj)) (σ : St) (Q : List V → Hp → Prop) (us : List Value) (s' : Shared) : Prop := ∃ vs H', Inv X pins σ H' s' ∧ Vals vs us ∧ Q vs H'
def SP (X : Cx) (pins : List (Addr × Obj)) (D : Ends) (f : Flow) (s' : Shared) : Prop :=
  match f with
  | .next => ∃ σ' H', Inv X pins σ' H' s' ∧ D.nx σ' H'
  | .brk => ∃ σ' H', Inv X pins σ' H' s' ∧ D.bk σ' H'
  | .cont => ∃ σ' H', Inv X pins σ' H' s' ∧ D.ct σ' H'
  | .ret u => ∃ v σ' H', Inv X pins σ' H' s' ∧ RelV v u ∧ D.rt v H'
def PE (X : Cx) (e : Expr) (t : TE) : Prop :=
  ∀ (pins : List (Addr × Obj)) (s : Shared) (σ : St) (H : Hp) (Q : VK), Inv X pins σ H s → t σ H Q → wpAny (model X.prog X.w) X.A (eval e X.env) (EP X pins σ Q) X.xe s
def PT (X : Cx) (e : Expr) (t : TT) : Prop :=
  ∀ (pins : List (Addr × Obj)) (s : Shared) (σ : St) (H : Hp) (Q : Bool → Hp → Prop), Inv X pins σ H s → t σ H Q → wpAny (model X.prog X.w) X.A (isTrue e X.env (eval e X.env)) (TP X pins σ Q) X.xe s
def PW (X : Cx) (e : Expr) (t : TT) : Prop :=
  ∀ (whole : Sem Value) (pins : List (Addr × Obj)) (s : Shared) (σ : St) (H : Hp) (Q : Bool → Hp → Prop), Inv X pins σ H s → t σ H Q → wpAny (model X.prog X.w) X.A (isTrue e X.env whole) (TP X pins σ Q) X.xe s
theorem PW.pt {X : Cx} {e : Expr} {t : TT} (h : PW X e t) : PT X e t := h _
def PA (X : Cx) (es : List Expr) (t : TA) : Prop :=
  ∀ (pos : Pos) (pins : List (Addr × Obj)) (s : Shared) (σ : St) (H : Hp) (Q : List V → Hp → Prop), Inv X pins σ H s → t σ H Q → wpAny (model X.prog X.w) X.A (spliced (backTo pos (starEach es X.env))) (AP X pins σ Q) X.xe s
def PS (X : Cx) (st : Stmt) (t : TS) : Prop :=
  ∀ (pins : List (Addr × Obj)) (s : Shared) (σ : St) (H : Hp) (D : Ends), Inv X pins σ H s → t D σ H → wpAny (model X.prog X.w) X.A (exec st X.env) (SP X pins D) X.xe s
def PSs (X : Cx) (st : List Stmt) (t : TS) : Prop :=
  ∀ (pins : List (Addr × Obj)) (s : Shared) (σ : St) (H : Hp) (D : Ends), Inv X pins σ H s → t D σ H → wpAny (model X.prog X.w) X.A (execs st X.env) (SP X pins D) X.xe s
theorem thn {α : Type} {t : Sem α} {Q Q' : α → Shared → Prop} {M : Model} {A : Around} {E : Value → Shared → Prop} {s : Shared} (h : wpAny M A t Q E s) (hQ : ∀ a s, Q a s → Q' a s) : wpAny M A t Q' E s := wpAny_mono h hQ fun _ _ x => x
end L2
namespace L2
open PySem PySem.Spec PyProof.Rows
section
variable {X : Cx}
def tVar (i : Nat) : TE := fun σ H Q => ∃ v, σ[i]? = some (some v) ∧ Q v H
def tC (v : V) : TE := fun _ H Q => Q v H
theorem pe_var {i : Nat} {x : Str} {pos : Pos} (hN : X.N[i]? = some x) (hv : Vis X.env.scope x) (hd : (x == ("__debug__" : Str)) = false := by decide) (hcd : (x == ("__classdict__" : Str)) = false := by decide) : PE X (.Name x pos) (tVar i) := by
  intro pins s σ H Q I h
  obtain ⟨v, e, h⟩ := h
  obtain ⟨m, hn, hl⟩ := I.loc
  obtain ⟨u, r, l⟩ := hl i x v hN e hv
  have fin : EP X pins σ Q u s := ⟨v, H, I, r, h⟩
  rcases l with ⟨hk, hm⟩ | ⟨hk, c, hc, hcell⟩
  · exact wpAny_Name (wpAny_loadName_local I.ok.kind hk hn hm fin) hd
  · rcases hk with hk | hk
    · exact wpAny_Name (wpAny_loadName_cell I.ok.kind hk hc hcell fin) hd
    · exact wpAny_Name (wpAny_loadName_free I.ok.kind hk hc hcell fin hcd) hd
theorem pe_int {i j pos} : PE X (.Constant (.int i) j pos) (tC (.int i)) := fun _ _ _ H _ I h => wpAny_Constant_int ⟨.int i, H, I.tok _, ⟨_, rfl⟩, h⟩
theorem pe_bl {b j pos} : PE X (.Constant (.bool b) j pos) (tC (.bl b)) := fun _ _ _ H _ I h => Constant_bool ⟨.bl b, H, I, rfl, h⟩
theorem pe_str {x j pos} : PE X (.Constant (.str x) j pos) (tC (.str x)) := fun _ _ _ H _ I h => Calls.Constant_str ⟨.str x, H, I.tok _, ⟨_, rfl⟩, h⟩
def Gl (X : Cx) (x : Str) : Prop := X.env.kindOf x = some .globalImplicit
theorem ld_glob {E : Value → Shared → Prop} {pins : List (Addr × Obj)} {s : Shared} {σ : St} {H : Hp} {x : Str} {u : Value} {pos : Pos} {Q : Value → Shared → Prop} (I : Inv X pins σ H s) (hg : Gl X x) (hm : X.mg x = some u) (h : Q u s)
    (hd : (x == ("__debug__" : Str)) = false := by decide) : wpAny (model X.prog X.w) X.A (eval (.Name x pos) X.env) Q E s :=
  Calls.Name_function_global I.ok.kind hg (Calls.loadGlobal_global (by rw [I.ok.glob]; exact I.mod.glob.keeps I.bk) hm h) hd
theorem ld_blt {E : Value → Shared → Prop} {pins : List (Addr × Obj)} {s : Shared} {σ : St} {H : Hp} {x : Str} {u : Value} {pos : Pos} {Q : Value → Shared → Prop} (I : Inv X pins σ H s) (hg : Gl X x) (hm : X.mg x = none) (hv : bootBuiltins x = some u) (h : Q u s)
    (hn : x ≠ "__name__" := by decide) (hd : (x == ("__debug__" : Str)) = false := by decide) : wpAny (model X.prog X.w) X.A (eval (.Name x pos) X.env) Q E s := by
  obtain ⟨mb, h1, h2⟩ := I.mod.blt
  exact Calls.Name_function_global I.ok.kind hg (Calls.loadGlobal_builtin (by rw [I.ok.glob]; exact I.mod.glob.keeps I.bk) hm (by rw [I.ok.blt]; exact h1.keeps I.bk) ((h2 x hn).trans hv) h) hd
theorem pe_glob {x : Str} {v : V} {u : Value} {pos : Pos} (hg : Gl X x) (hm : X.mg x = some u) (r : RelV v u) (hd : (x == ("__debug__" : Str)) = false := by decide) : PE X (.Name x pos) (tC v) :=
  fun _ _ _ H _ I h => ld_glob I hg hm ⟨v, H, I, r, h⟩ hd
theorem pe_bltn {x : Str} {v : V} {u : Value} {pos : Pos} (hg : Gl X x) (hm : X.mg x = none) (hv : bootBuiltins x = some u) (r : RelV v u) (hn : x ≠ "__name__" := by decide) (hd : (x == ("__debug__" : Str)) = false := by decide) : PE X (.Name x pos) (tC v) :=
  fun _ _ _ H _ I h => ld_blt I hg hm hv ⟨v, H, I, r, h⟩ hn hd
variable {a b : Expr} {ta tb : TE} {pos : Pos}
def tB (t : TE) : TT := fun σ H Q => t σ H fun x H1 => ∃ c, x = .bl c ∧ Q c H1
theorem pt_val {e : Expr} {t : TE} (h : PE X e t) (he : ∀ whole, isTrue e X.env whole = (do let v ← whole; standAt e.pos; holding [v] (truthy v)) := by intro _; rfl) : PT X e (tB t) := by
  intro pins s σ H Q I hw
  refine isTrue_plain (thn (h pins s σ H _ I hw) fun v s1 ⟨x, H1, I1, r1, q1⟩ => ?_) (he _)
  obtain ⟨d, rfl, q⟩ := q1
  cases r1
  exact wpAny_truthy_bool ⟨H1, I1, q⟩
variable {tA tB' : TT} {rest : List Expr}
def tOr (t u : TT) : TT := fun σ H Q => t σ H fun c H1 => if c = true then Q true H1 else u σ H1 Q
def tNot (t : TT) : TT := fun σ H Q => t σ H fun c H1 => Q (!c) H1
theorem pw_or1 (ha : PT X a tA) : PW X (.BoolOp .Or [a] pos) tA := by
  intro wh pins s σ H Q I h
  refine isTrue_or (thn (ha pins s σ H Q I h) fun c s1 e => ?_)
  cases c with
  | false => exact isTrue_or_nil e
  | true => exact e
theorem pw_or (ha : PT X a tA) (hb : PW X (.BoolOp .Or (b :: rest) pos) tB') : PW X (.BoolOp .Or (a :: b :: rest) pos) (tOr tA tB') := by
  intro wh pins s σ H Q I h
  refine isTrue_or (thn (ha pins s σ H _ I h) fun c s1 ⟨H1, I1, q1⟩ => ?_)
  cases c with
  | true => exact ⟨H1, I1, q1⟩
  | false => exact hb wh pins s1 σ H1 Q I1 q1
theorem pt_not (ha : PT X a tA) : PT X (.UnaryOp .Not a pos) (tNot tA) := by
  intro pins s σ H Q I h
  exact isTrue_not (ha pins s σ H (fun c H1 => Q (!c) H1) I h)
def tAndV (ta tb : TE) : TE := fun σ H Q => ta σ H fun x H1 => ∃ c, x = .bl c ∧ if c = true then tb σ H1 Q else Q (.bl false) H1
def tOrV (ta tb : TE) : TE := fun σ H Q => ta σ H fun x H1 => ∃ c, x = .bl c ∧ if c = true then Q (.bl true) H1 else tb σ H1 Q
theorem pe_one {op} {t : TE} (h : PE X a t) : PE X (.BoolOp op [a] pos) t := fun pins s σ H Q I hw => BoolOp_one (h pins s σ H Q I hw)
theorem pe_and (ha : PE X a ta) (hb : PE X (.BoolOp .And (b :: rest) pos) tb) : PE X (.BoolOp .And (a :: b :: rest) pos) (tAndV ta tb) := by
  intro pins s σ H Q I h
  refine BoolOp_and (thn (ha pins s σ H _ I h) fun v s1 ⟨x, H1, I1, r1, q1⟩ => ?_)
  obtain ⟨c, rfl, q1⟩ := q1
  cases r1
  refine wpAny_truthy_bool ?_
  cases c with
  | true => exact hb pins s1 σ H1 Q I1 q1
  | false => exact ⟨.bl false, H1, I1, rfl, q1⟩
theorem pe_or (ha : PE X a ta) (hb : PE X (.BoolOp .Or (b :: rest) pos) tb) : PE X (.BoolOp .Or (a :: b :: rest) pos) (tOrV ta tb) := by
  intro pins s σ H Q I h
  refine BoolOp_or (thn (ha pins s σ H _ I h) fun v s1 ⟨x, H1, I1, r1, q1⟩ => ?_)
  obtain ⟨c, rfl, q1⟩ := q1
  cases r1
  refine wpAny_truthy_bool ?_
  cases c with
  | false => exact hb pins s1 σ H1 Q I1 q1
  | true => exact ⟨.bl true, H1, I1, rfl, q1⟩
end
end L2
namespace L2
open PySem PySem.Spec PyProof.Rows
def SqL (K : PySem.W.Frag) (H : Hp) (a : Addr) (xs : List V) : Prop :=
  Rd H a (.lst xs) ∨
    ∃ (o : Obj) (its : Array Value) (n : Nat), K.lookup a = some o ∧ o.cls = .type "list" ∧ o.dict = none ∧ o.data = .seq its n ∧ its.size ≤ sizeLine ∧ Vals xs its.toList
def SqT (K : PySem.W.Frag) (H : Hp) (a : Addr) (xs : List V) : Prop :=
  Rd H a (.tup xs) ∨
    ∃ (o : Obj) (its : Array Value) (n : Nat), K.lookup a = some o ∧ o.cls = .type "tuple" ∧ o.data = .seq its n ∧ its.size ≤ sizeLine ∧ Vals xs its.toList
def absV : Value → Option V
  | .none => some .non
  | .bool b => some (.bl b)
  | .int i _ => some (.int i)
  | .str x _ => some (.str x)
  | .bytes b _ => some (.byt b)
  | .float b _ => some (.flt b)
  | .ref a => some (.ref a)
  | .type n => some (.ty n)
  | _ => none
theorem RelV.abs {x : V} {u : Value} (r : RelV x u) : absV u = some x := by
  cases x with
  | non => cases r; rfl
  | bl _ => cases r; rfl
  | int _ => obtain ⟨t, rfl⟩ := r; rfl
  | str _ => obtain ⟨t, rfl⟩ := r; rfl
  | byt _ => obtain ⟨t, rfl⟩ := r; rfl
  | flt _ => obtain ⟨t, rfl⟩ := r; rfl
  | ref _ => cases r; rfl
  | ty _ => cases r; rfl
theorem RelV.inj {x y : V} {u : Value} (r : RelV x u) (q : RelV y u) : x = y := Option.some.inj (r.abs.symm.trans q.abs)
theorem Vals.inj : ∀ {xs ys : List V} {us : List Value}, Vals xs us → Vals ys us → xs = ys
  | _, _, _, .nil, .nil => rfl
  | _, _, _, .cons r t, .cons r' t' => by rw [r.inj r', Vals.inj t t']
section
variable {X : Cx} {pins : List (Addr × Obj)} {σ : St} {H : Hp} {s : Shared} {a : Addr} {xs ys : List V}
theorem SqL.of {K : PySem.W.Frag} (h : H a = some (.lst xs)) : SqL K H a xs := .inl (.inl h)
theorem Inv.list (I : Inv X pins σ H s) (h : SqL X.K H a xs) : ∃ its : List Value, Vals xs its ∧ PlainL s.heap a its.toArray ∧ xs.length ≤ sizeLine := by
  rcases h with h | ⟨o, its, n, hk, hc, hd, hs, hz, r⟩
  · obtain ⟨z, its, n, r, e⟩ := h.ok I.hok
    exact ⟨its, r, ⟨_, n, e, rfl, rfl, rfl⟩, z⟩
  · refine ⟨its.toList, r, ⟨o, n, I.kIn a o hk, hc, hd, by simpa using hs⟩, ?_⟩
    have e := r.length
    simp only [Array.length_toList] at e
    omega
theorem Inv.tuple (I : Inv X pins σ H s) (h : SqT X.K H a xs) : ∃ its : List Value, Vals xs its ∧ IsTup s.heap a its.toArray ∧ xs.length ≤ sizeLine := by
  rcases h with h | ⟨o, its, n, hk, hc, hs, hz, r⟩
  · obtain ⟨z, its, r, p⟩ := h.ok I.hok
    exact ⟨its, r, p, z⟩
  · refine ⟨its.toList, r, ⟨o, I.kIn a o hk, hc, n, by simpa using hs⟩, ?_⟩
    have e := r.length
    simp only [Array.length_toList] at e
    omega
theorem Inv.list_inj (I : Inv X pins σ H s) (h : SqL X.K H a xs) (h' : SqL X.K H a ys) : xs = ys := by
  obtain ⟨its, r, ⟨o, n, e, _, _, d⟩, _⟩ := I.list h
  obtain ⟨its', r', ⟨o', n', e', _, _, d'⟩, _⟩ := I.list h'
  rw [e] at e'; cases e'
  rw [d] at d'
  injection d' with d1 _
  have : its = its' := by simpa using congrArg Array.toList d1
  subst this
  exact r.inj r'
theorem Inv.tuple_inj (I : Inv X pins σ H s) (h : SqT X.K H a xs) (h' : SqT X.K H a ys) : xs = ys := by
  obtain ⟨its, r, ⟨o, e, _, n, d⟩, _⟩ := I.tuple h
  obtain ⟨its', r', ⟨o', e', _, n', d'⟩, _⟩ := I.tuple h'
  rw [e] at e'; cases e'
  rw [d] at d'
  injection d' with d1 _
  have : its = its' := by simpa using congrArg Array.toList d1
  subst this
  exact r.inj r'
end
abbrev Cx.wish (X : Cx) (E : Value → Shared → Prop) : Cx := { X with xe := E }
abbrev Cx.nox (X : Cx) : Cx := X.wish fun _ _ => False
theorem Cx.Ok.wish {X : Cx} (ok : X.Ok) (E : Value → Shared → Prop) : (X.wish E).Ok :=
  ⟨ok.mod, ok.kind, ok.glob, ok.blt, ok.above, ok.inj, ok.has, ok.cab, ok.hd, ok.frames, ok.stk, ok.exf, ok.bs, ok.bsz, ok.noex, ok.exfs, ok.funs, ok.frf⟩
theorem Cx.Ok.unwish {X : Cx} {E : Value → Shared → Prop} (ok : (X.wish E).Ok) : X.Ok :=
  ⟨ok.mod, ok.kind, ok.glob, ok.blt, ok.above, ok.inj, ok.has, ok.cab, ok.hd, ok.frames, ok.stk, ok.exf, ok.bs, ok.bsz, ok.noex, ok.exfs, ok.funs, ok.frf⟩
section
variable {X : Cx} {pins : List (Addr × Obj)} {σ : St} {H : Hp} {s : Shared} {E : Value → Shared → Prop}
theorem Inv.wish (I : Inv X pins σ H s) (E : Value → Shared → Prop) : Inv (X.wish E) pins σ H s := ⟨I.ok.wish E, I.os, I.bare, I.base, I.loc, I.cell, I.free, I.freeC, I.pin, I.hok, I.len⟩
theorem Inv.unwish (I : Inv (X.wish E) pins σ H s) : Inv X pins σ H s := ⟨I.ok.unwish, I.os, I.bare, I.base, I.loc, I.cell, I.free, I.freeC, I.pin, I.hok, I.len⟩
theorem SP.unwish {D : Ends} {f : Flow} {s' : Shared} (h : SP (X.wish E) pins D f s') : SP X pins D f s' := by
  cases f with
  | next => obtain ⟨σ', H', I, q⟩ := h; exact ⟨σ', H', I.unwish, q⟩
  | brk => obtain ⟨σ', H', I, q⟩ := h; exact ⟨σ', H', I.unwish, q⟩
  | cont => obtain ⟨σ', H', I, q⟩ := h; exact ⟨σ', H', I.unwish, q⟩
  | ret u => obtain ⟨v, σ', H', I, r, q⟩ := h; exact ⟨v, σ', H', I.unwish, r, q⟩
theorem PSs.nox {st : List Stmt} {t : TS} (h : PSs X.nox st t) : PSs X st t := fun pins s σ H D I hw =>
  wpAny_mono (h pins s σ H D (I.wish _) hw) (fun _ _ q => q.unwish) fun _ _ z => False.elim z
end
section
variable {X : Cx} {st : Stmt} {rest : List Stmt} {t u : TS} {e : Expr} {te : TE} {pos : Pos}
def tNext : TS := fun D σ H => D.nx σ H
def tSeq (t u : TS) : TS := fun D σ H => t { D with nx := u D } σ H
theorem pss_nil : PSs X [] tNext := fun _ _ σ H _ I h => wpAny_execs_nil ⟨σ, H, I, h⟩
theorem pss_cons (h1 : PS X st t) (h2 : PSs X rest u) : PSs X (st :: rest) (tSeq t u) := by
  intro pins s σ H D I h
  refine wpAny_execs_cons (thn (h1 pins s σ H { D with nx := u D } I h) fun f s1 q => ?_)
  cases f with
  | next =>
    obtain ⟨σ', H', I', q⟩ := q
    exact h2 pins s1 σ' H' D I' q
  | ret v => exact q
  | brk => exact q
  | cont => exact q
theorem Inv.quiet {pins : List (Addr × Obj)} {σ : St} {H : Hp} {s : Shared} (I : Inv X pins σ H s) : interactive X.env = false := by simp [interactive, I.ok.kind]
def tDrop (te : TE) : TS := fun D σ H => te σ H fun _ H1 => D.nx σ H1
theorem ps_expr (he : PE X e te) (hs : swapsWith e none pos.line X.env = pure false := by rfl) : PS X (.Expr e pos) (tDrop te) := by
  intro pins s σ H D I h
  exact wpAny_Expr_any (thn (he pins s σ H _ I h) fun v s1 ⟨x, H1, I1, r1, q1⟩ => ⟨σ, H1, I1, q1⟩) I.quiet hs
def tRet (te : TE) : TS := fun D σ H => te σ H D.rt
theorem ps_ret (he : PE X e te) : PS X (.Return (some e) pos) (tRet te) := by
  intro pins s σ H D I h
  exact wpAny_Return_some (thn (he pins s σ H _ I h) fun v s1 ⟨x, H1, I1, r1, q1⟩ => ⟨x, σ, H1, I1, r1, q1⟩)
def tIfS (c : TT) (t u : TS) : TS := fun D σ H => c σ H fun b H1 => if b = true then t D σ H1 else u D σ H1
theorem ps_if {c : Expr} {a b : List Stmt} {tc : TT} (hc : PT X c tc) (ha : PSs X a t) (hb : PSs X b u) : PS X (.If c a b pos) (tIfS tc t u) := by
  intro pins s σ H D I h
  refine wpAny_If (thn (hc pins s σ H _ I h) fun d s1 ⟨H1, I1, q1⟩ => ?_)
  cases d with
  | true => exact ha pins s1 σ H1 D I1 q1
  | false => exact hb pins s1 σ H1 D I1 q1
def tNever : TS := fun _ _ _ => False
theorem pss_never {sts : List Stmt} : PSs X sts tNever := fun _ _ _ _ _ _ h => h.elim
end
abbrev TG := V → St → Hp → (St → Hp → Prop) → Prop
abbrev TGs := List V → St → Hp → (St → Hp → Prop) → Prop
def PG (X : Cx) (target : Expr) (t : TG) : Prop :=
  ∀ (pins : List (Addr × Obj)) (s : Shared) (σ : St) (H : Hp) (v : V) (u : Value) (Q : St → Hp → Prop), Inv X pins σ H s → RelV v u → t v σ H Q →
    wpAny (model X.prog X.w) X.A (assign target X.env u) (fun _ s' => ∃ σ' H', Inv X pins σ' H' s' ∧ Q σ' H') X.xe s
def PGs (X : Cx) (ts : List Expr) (t : TGs) : Prop :=
  ∀ (pins : List (Addr × Obj)) (s : Shared) (σ : St) (H : Hp) (vs : List V) (us : List Value) (Q : St → Hp → Prop), Inv X pins σ H s → Vals vs us → t vs σ H Q →
    wpAny (model X.prog X.w) X.A (assignInOrder ((assignEach ts X.env).map (·.2)) us) (fun _ s' => ∃ σ' H', Inv X pins σ' H' s' ∧ Q σ' H') X.xe s
abbrev TSet := V → V → V → Hp → (Hp → Prop) → Prop
def PSet (X : Cx) (t : TSet) : Prop :=
  ∀ (pins : List (Addr × Obj)) (s : Shared) (σ : St) (H : Hp) (o i v : V) (ov iv u : Value) (Q : Hp → Prop), Inv X pins σ H s → RelV o ov → RelV i iv → RelV v u → t o i v H Q →
    wpAny (model X.prog X.w) X.A (setItem ov iv u) (fun _ s' => ∃ H', Inv X pins σ H' s' ∧ Q H') X.xe s
section
variable {X : Cx} {pos : Pos}
def gName (i : Nat) : TG := fun v σ H Q => Q (σ.set i (some v)) H
theorem pg_name {i : Nat} {x : Str} (hN : X.N.Nodup) (hi : X.N[i]? = some x) (hx : Loc X.env.scope x) (hf : X.fn x = true ∨ X.env.scope.names.lookup x = some .local := by first | exact .inl rfl | exact .inr rfl | assumption) : PG X (.Name x pos) (gName i) := by
  intro pins s σ H v u Q I r h
  exact wpAny_assign_Name (store_ok I hN hi hx r (fun s' I' => ⟨_, H, I', h⟩) hf)
def gNil : TGs := fun vs σ H Q => vs = [] ∧ Q σ H
def gCons (t : TG) (u : TGs) : TGs := fun vs σ H Q => ∃ v r, vs = v :: r ∧ t v σ H fun σ' H' => u r σ' H' Q
theorem pgs_nil : PGs X [] gNil := by
  intro pins s σ H vs us Q I r h
  obtain ⟨e, h⟩ := h
  subst e
  cases r
  exact assignInOrder_nil ⟨σ, H, I, h⟩
theorem pgs_cons {e : Expr} {es : List Expr} {t : TG} {u : TGs} (h1 : PG X e t) (h2 : PGs X es u)
    (hs : (assignEach (e :: es) X.env).map (·.2) = assign e X.env :: (assignEach es X.env).map (·.2) := by rfl) : PGs X (e :: es) (gCons t u) := by
  intro pins s σ H vs us Q I r h
  obtain ⟨v, vr, e1, h⟩ := h
  subst e1
  cases r with
  | cons r rr =>
    rw [hs]
    refine assignInOrder_cons (thn (h1 pins s σ H _ _ _ I r h) fun _ s1 ⟨σ1, H1, I1, q1⟩ => ?_)
    exact h2 pins s1 σ1 H1 _ _ Q I1 rr q1
def gTup (K : PySem.W.Frag) (n : Nat) (t : TGs) : TG := fun v σ H Q => ∃ a xs, v = .ref a ∧ SqT K H a xs ∧ xs.length = n ∧ t xs σ H Q
theorem pg_tup {es : List Expr} {k : Nat} {t : TGs} {n : Nat} (hc : X.calm = true) (h : PGs X es t)
    (hn : (assignEach es X.env).length = n := by rfl) (hst : (assignEach es X.env).findIdx? (·.1) = none := by rfl) : PG X (.Tuple es k pos) (gTup X.K n t) := by
  intro pins s σ H v u Q I r hw
  obtain ⟨a, xs, e1, hq, hl, hw⟩ := hw
  subst e1
  cases r
  obtain ⟨its, rv, ht, hz⟩ := I.tuple hq
  refine assign_Tuple_tuple (I.ok.hd hc) ht (by simp [hn, ← hl, rv.length]) hst fun h' hx => ?_
  have I1 : Inv X pins σ H { s with heap := h' } := I.kept (t' := s.toks) fun b o e => hx b o (Nat.ne_of_lt (Heap.lt_size e)) e
  exact h pins _ σ H xs _ Q I1 (by simpa using rv) hw
def gSub (to ti : TE) (t : TSet) : TG := fun v σ H Q => to σ H fun o H1 => ti σ H1 fun i H2 => t o i v H2 fun H3 => Q σ H3
theorem pg_sub {o i : Expr} {to ti : TE} {t : TSet} (ho : PE X o to) (hi : PE X i ti) (hs : PSet X t)
    (ha : ∀ v, assign (.Subscript o i pos) X.env v = (do
      let ov ← holding [v] (eval o X.env)
      let iv ← holding [v, ov] (eval i X.env)
      standAt pos
      holding [v, ov, iv] (setItem ov iv v)
      release [v, ov, iv] []) := by intro _; rfl) : PG X (.Subscript o i pos) (gSub to ti t) := by
  intro pins s σ H v u Q I r h
  rw [ha]
  refine wpAny_bind (wpAny_holding (thn (ho pins s σ H _ I h) fun ov s1 ⟨x, H1, I1, r1, q1⟩ => ?_))
  refine wpAny_bind (wpAny_holding (thn (hi pins s1 σ H1 _ I1 q1) fun iv s2 ⟨y, H2, I2, r2, q2⟩ => ?_))
  refine wpAny_bind (wpAny_standAt (wpAny_bind (wpAny_holding (thn (hs pins s2 σ H2 x y v ov iv u _ I2 r1 r2 r q2) fun _ s3 ⟨H3, I3, q3⟩ => ?_))))
  exact wpAny_release ⟨σ, H3, I3, q3⟩
def tAsg (te : TE) (g : TG) : TS := fun D σ H => te σ H fun x H1 => g x σ H1 D.nx
theorem ps_asg {tg e : Expr} {te : TE} {g : TG} (he : PE X e te) (hg : PG X tg g) (hs : swapsWithSole [tg] e pos.line X.env = pure false := by rfl) (hw : swappedStores [tg] e X.env = pure none := by rfl)
    (h1 : (assignEach [tg] X.env).map (·.2) = [assign tg X.env] := by rfl) : PS X (.Assign [tg] e pos) (tAsg te g) := by
  intro pins s σ H D I h
  refine wpAny_Assign_stores (thn (he pins s σ H _ I h) fun v s1 ⟨x, H1, I1, r1, q1⟩ => ?_) hs hw
  rw [h1]
  exact thn (hg pins s1 σ H1 x v _ I1 r1 q1) fun _ s2 q => q
theorem ps_set {i : Nat} {x : Str} {e : Expr} {te : TE} {pos' : Pos} (hN : X.N.Nodup) (hi : X.N[i]? = some x) (hx : Loc X.env.scope x) (he : PE X e te) (hs : swapsWith e (some (.Name x pos')) pos.line X.env = pure false := by rfl) (hf : X.fn x = true ∨ X.env.scope.names.lookup x = some .local := by first | exact .inl rfl | exact .inr rfl | assumption) :
    PS X (.Assign [.Name x pos'] e pos) (tAsg te (gName i)) := by
  intro pins s σ H D I h
  refine wpAny_Assign_Name (thn (he pins s σ H _ I h) fun v s1 ⟨y, H1, I1, r1, q1⟩ => ?_) hs
  exact store_ok I1 hN hi hx r1 (fun s2 I2 => ⟨_, H1, I2, q1⟩) hf
end
section
variable {X : Cx} {pos : Pos}
def tWhile (c : TT) (tb : TS) : TS := fun D σ H => ∃ W : Nat → St → Hp → Prop, (∃ m, W m σ H) ∧ ∀ m σ H, W m σ H →
  c σ H fun b H1 => if b = true then ∃ N : St → Hp → Prop, (∀ σ' H', N σ' H' → ∃ m', m' < m ∧ W m' σ' H') ∧ tb { D with nx := N, ct := N, bk := D.nx } σ H1 else D.nx σ H1
theorem ps_while {c : Expr} {body : List Stmt} {tc : TT} {tb : TS} (hp : PassesOwn (model X.prog X.w) X.A X.env X.xe) (hc : PT X c tc) (hb : PSs X body tb) : PS X (.While c body [] pos) (tWhile tc tb) := by
  intro pins s σ H D I h
  obtain ⟨W, ⟨m0, w0⟩, turn⟩ := h
  refine wpAny_While (codeAny_whileLoop (fun n s' => ∃ σ' H', Inv X pins σ' H' s' ∧ W n σ' H') ?_ m0 ⟨σ, H, I, w0⟩)
  rintro n s1 ⟨σ1, H1, I1, w1⟩
  refine wpAny_passesOwn hp (thn (hc pins s1 σ1 H1 _ I1 (turn n σ1 H1 w1)) fun b s2 ⟨H2, I2, q2⟩ => ?_)
  cases b with
  | true =>
    obtain ⟨N, hN, q2⟩ := q2
    rw [if_pos rfl]
    refine wpAny_passesOwn hp (thn (hb pins s2 σ1 H2 _ I2 q2) fun f s3 q3 => ?_)
    cases f with
    | next =>
      obtain ⟨σ3, H3, I3, n3⟩ := q3
      obtain ⟨m', hm, w3⟩ := hN σ3 H3 n3
      exact ⟨m', hm, σ3, H3, I3, w3⟩
    | cont =>
      obtain ⟨σ3, H3, I3, n3⟩ := q3
      obtain ⟨m', hm, w3⟩ := hN σ3 H3 n3
      exact ⟨m', hm, σ3, H3, I3, w3⟩
    | brk => exact q3
    | ret v => exact q3
  | false =>
    rw [if_neg Bool.false_ne_true]
    exact wpAny_execs_nil ⟨σ1, H2, I2, q2⟩
end
structure It where
  go : Nat → Hp → Prop
  yld : Nat → Hp → V → Hp → Prop
  stop : Nat → Hp → Prop
def FpOk (X : Cx) (pins : List (Addr × Obj)) (H : Hp) (b : Addr) : Prop :=
  H b = none ∧ b ≠ X.env.locals ∧ b ∉ X.fs ∧ (b ∈ X.ex ∨ X.s₀.heap.objs.size ≤ b) ∧ (∀ x c, X.env.cells.lookup x = some c → c ≠ b) ∧ ∀ p ∈ X.pn ++ pins, p.1 ≠ b
theorem Inv.fpOk {X : Cx} {pins : List (Addr × Obj)} {σ : St} {H H' : Hp} {s : Shared} {b : Addr} (I : Inv X pins σ H s) (hb : s.heap.objs.size ≤ b) (hn : H' b = none) : FpOk X pins H' b := by
  refine ⟨hn, Nat.ne_of_gt (Nat.lt_of_lt_of_le I.lt hb), I.nofs hb, .inr (Nat.le_trans I.sz hb), fun x c e z => ?_, fun p hp z => ?_⟩
  · obtain ⟨v, q⟩ := I.cell x c e
    exact absurd (Nat.lt_of_lt_of_le q.lt (by rw [z]; exact hb)) (Nat.lt_irrefl _)
  · exact absurd (Nat.lt_of_lt_of_le (Heap.lt_size (I.pin p hp).1) (by rw [z]; exact hb)) (Nat.lt_irrefl _)
structure Turn (P : Program) (w : World) (K : PySem.W.Frag) (tg : Expr) (J : It) (fp : List Addr) (it : Addr) (tn : Nat → Heap → Prop) : Prop where
  mem : it ∈ fp
  obj : ∀ i h, tn i h → ∀ b ∈ fp, ∃ o, h.get? b = some o ∧ ∀ v, o.data ≠ .cell v
  keep : ∀ i h h', tn i h → (∀ b ∈ fp, ∀ o, h.get? b = some o → h'.get? b = some o) → tn i h'
  item : ∀ (X : Cx), X.prog = P → X.w = w → X.K = K → X.calm = true → ∀ (i : Nat) (pins : List (Addr × Obj)) (s : Shared) (σ : St) (H : Hp) (E : Value → Shared → Prop), Inv X pins σ H s → (∀ b ∈ fp, FpOk X pins H b) → tn i s.heap → J.go i H →
    wpAny (model P w) X.A (pyNext (.ref it)) (fun r s1 => ∃ u, r = some u ∧
      wpAny (model P w) X.A (letOwnedTupleGo tg (.ref it) u) (fun _ s2 => ∃ x H', Inv X pins σ H' s2 ∧ RelV x u ∧ J.yld i H x H' ∧ tn (i + 1) s2.heap ∧ ∀ b ∈ fp, H' b = none) E s1) E s
  done : ∀ (X : Cx), X.prog = P → X.w = w → X.K = K → X.calm = true → ∀ (i : Nat) (pins : List (Addr × Obj)) (s : Shared) (σ : St) (H : Hp) (E : Value → Shared → Prop), Inv X pins σ H s → (∀ b ∈ fp, FpOk X pins H b) → tn i s.heap → J.stop i H →
    wpAny (model P w) X.A (pyNext (.ref it)) (fun r s1 => r = none ∧ Inv X pins σ H s1) E s
  self : ∀ (A : Around) (i : Nat) (s : Shared) (Q : Value → Shared → Prop) (E : Value → Shared → Prop), tn i s.heap → Q (.ref it) s → wpAny (model P w) A (pyIter (.ref it)) Q E s
abbrev TI := St → Hp → (It → Hp → Prop) → Prop
def PIE (X : Cx) (pins : List (Addr × Obj)) (σ : St) (tg : Expr) (R : It → Hp → Prop) (itv : Value) (s2 : Shared) : Prop :=
  ∃ (it : Addr) (fp : List Addr) (tn : Nat → Heap → Prop) (J : It) (H' : Hp), itv = .ref it ∧ Inv X pins σ H' s2 ∧ Turn X.prog X.w X.K tg J fp it tn ∧ tn 0 s2.heap ∧ (∀ b ∈ fp, FpOk X pins H' b) ∧ R J H'
def PI (X : Cx) (tg iter : Expr) (wi : TI) : Prop :=
  ∀ (pins : List (Addr × Obj)) (s : Shared) (σ : St) (H : Hp) (R : It → Hp → Prop), Inv X pins σ H s → wi σ H R →
    wpAny (model X.prog X.w) X.A (eval iter X.env) (fun v s1 => wpAny (model X.prog X.w) X.A (pyIter v) (PIE X pins σ tg R) X.xe s1) X.xe s
theorem go_of {M : Model} {A : Around} {E : Value → Shared → Prop} {s : Shared} {tg : Expr} {it : Addr} {u : Value} {o : Obj} {n : String} {vs : Array Value} {Q : Unit → Shared → Prop} (ho : s.heap.get? it = some o) (hc : o.cls = .type n) (hd : o.data = .fields vs)
    (hn : ["enumerate", "zip", "dict_itemiterator", "dict_reverseitemiterator", "odict_iterator", "itertools.zip_longest", "itertools.pairwise"].contains n = false) (hQ : Q () s) : wpAny M A (letOwnedTupleGo tg (.ref it) u) Q E s := by
  unfold letOwnedTupleGo
  cases tg <;> first
    | exact wpAny_pure hQ
    | (cases u <;> first
        | exact wpAny_pure hQ
        | (refine wpAny_bind (wpAny_load ho ?_)
           rw [hc, hd]
           show wpAny M A (if (["enumerate", "zip", "dict_itemiterator", "dict_reverseitemiterator", "odict_iterator", "itertools.zip_longest", "itertools.pairwise"].contains n && vs[0]? == some (rawInt _)) = true then _ else _) Q E s
           rw [if_neg (by intro h; rw [hn, Bool.false_and] at h; cases h)]
           exact wpAny_pure hQ))
def Itl (K : PySem.W.Frag) (a : Addr) : It :=
  ⟨fun i H => ∃ xs x, SqL K H a xs ∧ xs[i]? = some x, fun i H x H' => H' = H ∧ ∀ xs, SqL K H a xs → xs[i]? = some x, fun i H => ∃ xs, SqL K H a xs ∧ xs.length ≤ i⟩
def Itt (K : PySem.W.Frag) (a : Addr) : It :=
  ⟨fun i H => ∃ xs x, SqT K H a xs ∧ xs[i]? = some x, fun i H x H' => H' = H ∧ ∀ xs, SqT K H a xs → xs[i]? = some x, fun i H => ∃ xs, SqT K H a xs ∧ xs.length ≤ i⟩
def Itr (lo : Int) (n : Nat) : It := ⟨fun i _ => i < n, fun i H x H' => H' = H ∧ x = .int (lo + i), fun i _ => n ≤ i⟩
theorem turn_list {P : Program} {w : World} {K : PySem.W.Frag} {tg : Expr} (a it : Addr) : Turn P w K tg (Itl K a) [it] it (fun i h => h.IsListIter it a i) where
  mem := by simp
  obj := fun i h st b hb => by
    have e : b = it := by simpa using hb
    subst e
    obtain ⟨o, e, c, d⟩ := st
    exact ⟨o, e, fun v z => by rw [d] at z; cases z⟩
  keep := fun i h h' st k => st.at fun o e => k it (by simp) o e
  item := by
    intro X hP hw hK hc i pins s σ H E I hf st hg
    subst hP hw hK
    obtain ⟨xs, x, hq, hx⟩ := hg
    obtain ⟨its, rv, p, hz⟩ := I.list hq
    obtain ⟨u, hu, ru⟩ := rv.get hx
    obtain ⟨f0, f1, f2, f3, f4, f5⟩ := hf it (by simp)
    refine wpAny_pyNext_list_item st p.isList (x := u) (by simpa using hu) fun h' st' sb => ?_
    have I1 : Inv X pins σ H { s with heap := h' } := I.turned (t' := s.toks) (fun b o hb e => (sb.2 b hb).trans e) f0 f1 f3 f4 f5
    obtain ⟨o, e, c, d⟩ := id st'
    exact ⟨u, rfl, go_of (s := { s with heap := h' }) e c d (by decide) ⟨x, H, I1, ru, ⟨rfl, fun ys hy => by rw [I.list_inj hy hq]; exact hx⟩, st', fun b hb => (hf b hb).1⟩⟩
  done := by
    intro X hP hw hK hc i pins s σ H E I hf st hg
    subst hP hw hK
    obtain ⟨xs, hq, hx⟩ := hg
    obtain ⟨its, rv, p, hz⟩ := I.list hq
    obtain ⟨f0, f1, f2, f3, f4, f5⟩ := hf it (by simp)
    have hl := rv.length
    exact wpAny_pyNext_list_end (I.ok.hd hc) st p.isList (by simp; omega) fun h' eb => ⟨rfl, I.turned (t' := s.toks) (fun b o hb e => eb b o hb e) f0 f1 f3 f4 f5⟩
  self := fun _ _ _ _ _ st h => wpAny_pyIter_listiter st h
theorem turn_tuple {P : Program} {w : World} {K : PySem.W.Frag} {tg : Expr} (a it : Addr) : Turn P w K tg (Itt K a) [it] it (fun i h => h.IsTupleIter it a i) where
  mem := by simp
  obj := fun i h st b hb => by
    have e : b = it := by simpa using hb
    subst e
    obtain ⟨o, e, c, d⟩ := st
    exact ⟨o, e, fun v z => by rw [d] at z; cases z⟩
  keep := fun i h h' st k => st.at fun o e => k it (by simp) o e
  item := by
    intro X hP hw hK hc i pins s σ H E I hf st hg
    subst hP hw hK
    obtain ⟨xs, x, hq, hx⟩ := hg
    obtain ⟨its, rv, p, hz⟩ := I.tuple hq
    obtain ⟨u, hu, ru⟩ := rv.get hx
    obtain ⟨f0, f1, f2, f3, f4, f5⟩ := hf it (by simp)
    refine wpAny_pyNext_tuple_item st (show s.heap.IsTuple a its.toArray from p) (x := u) (by simpa using hu) fun h' st' sb => ?_
    have I1 : Inv X pins σ H { s with heap := h' } := I.turned (t' := s.toks) (fun b o hb e => (sb.2 b hb).trans e) f0 f1 f3 f4 f5
    obtain ⟨o, e, c, d⟩ := id st'
    exact ⟨u, rfl, go_of (s := { s with heap := h' }) e c d (by decide) ⟨x, H, I1, ru, ⟨rfl, fun ys hy => by rw [I.tuple_inj hy hq]; exact hx⟩, st', fun b hb => (hf b hb).1⟩⟩
  done := by
    intro X hP hw hK hc i pins s σ H E I hf st hg
    subst hP hw hK
    obtain ⟨xs, hq, hx⟩ := hg
    obtain ⟨its, rv, p, hz⟩ := I.tuple hq
    obtain ⟨f0, f1, f2, f3, f4, f5⟩ := hf it (by simp)
    have hl := rv.length
    exact wpAny_pyNext_tuple_end (I.ok.hd hc) st (show s.heap.IsTuple a its.toArray from p) (by simp; omega) fun h' eb => ⟨rfl, I.turned (t' := s.toks) (fun b o hb e => eb b o hb e) f0 f1 f3 f4 f5⟩
  self := fun _ _ _ _ _ st h => wpAny_pyIter_tupleiter st h
theorem turn_range {P : Program} {w : World} {K : PySem.W.Frag} {tg : Expr} (it : Addr) (lo : Int) (n : Nat) : Turn P w K tg (Itr lo n) [it] it (fun i h => IsRangeIter h it (lo + (i : Nat) * 1) ((n : Int) - (i : Nat)) 1) where
  mem := by simp
  obj := fun i h st b hb => by
    have e : b = it := by simpa using hb
    subst e
    exact ⟨_, st, fun v z => by
      have z' : Data.fields _ = Data.cell v := z
      cases z'⟩
  keep := fun i h h' st k => k it (by simp) _ st
  item := by
    intro X hP hw hK hc i pins s σ H E I hf st hg
    subst hP hw hK
    obtain ⟨f0, f1, f2, f3, f4, f5⟩ := hf it (by simp)
    have W := Walks.range (prog := X.prog) (w := X.w) (I.ok.hd hc) it lo 1 n
    refine W.item i s _ _ hg st fun v h' tk hv st' kk => ?_
    obtain ⟨t, rfl⟩ := hv
    have I1 : Inv X pins σ H { s with heap := h', toks := tk } := I.turned (fun b o hb e => kk b o (by simpa using hb) e) f0 f1 f3 f4 f5
    refine ⟨_, rfl, go_of (s := { s with heap := h', toks := tk }) (n := "range_iterator") st' rfl rfl (by decide) ⟨.int (lo + i), H, I1, ⟨t, ?_⟩, ⟨rfl, rfl⟩, st', fun b hb => (hf b hb).1⟩⟩
    rw [Int.mul_one]
  done := by
    intro X hP hw hK hc i pins s σ H E I hf st hg
    subst hP hw hK
    obtain ⟨f0, f1, f2, f3, f4, f5⟩ := hf it (by simp)
    exact wpAny_pyNext_range_end (I.ok.hd hc) st (by have : n ≤ i := hg; omega) fun h' eb => ⟨rfl, I.turned (t' := s.toks) (fun b o hb e => eb b o hb e) f0 f1 f3 f4 f5⟩
  self := fun _ _ _ _ _ st h => wpAny_pyIter_rangeiter st h
end L2
namespace L2
open PySem PySem.Spec PyProof.Rows
section
variable {X : Cx} {tg : Expr}
def iList (K : PySem.W.Frag) (tl : TE) : TI := fun σ H R => tl σ H fun x H1 => ∃ a, x = .ref a ∧ (∃ xs, SqL K H1 a xs) ∧ R (Itl K a) H1
def iTup (K : PySem.W.Frag) (tl : TE) : TI := fun σ H R => tl σ H fun x H1 => ∃ a, x = .ref a ∧ (∃ xs, SqT K H1 a xs) ∧ R (Itt K a) H1
theorem pi_list {l : Expr} {tl : TE} (hl : PE X l tl) : PI X tg l (iList X.K tl) := by
  intro pins s σ H R I h
  refine thn (hl pins s σ H _ I h) fun v s1 ⟨x, H1, I1, r1, q1⟩ => ?_
  obtain ⟨a, e, ⟨xs, hq⟩, q⟩ := q1
  subst e
  cases r1
  obtain ⟨its, rv, p, hz⟩ := I1.list hq
  refine wpAny_pyIter_list p.isList ?_
  refine ⟨s1.heap.objs.size, [s1.heap.objs.size], _, _, H1, rfl, I1.kept (t' := s1.toks) fun b o e => Heap.get?_push_of_some _ e, turn_list a _, ⟨_, Heap.get?_push_size _ rfl, rfl, rfl⟩, fun b hb => ?_, q⟩
  have e : b = s1.heap.objs.size := by simpa using hb
  subst e
  exact I1.fpOk (Nat.le_refl _) (I1.hok.fresh (Nat.le_refl _))
theorem pi_tup {l : Expr} {tl : TE} (hl : PE X l tl) : PI X tg l (iTup X.K tl) := by
  intro pins s σ H R I h
  refine thn (hl pins s σ H _ I h) fun v s1 ⟨x, H1, I1, r1, q1⟩ => ?_
  obtain ⟨a, e, ⟨xs, hq⟩, q⟩ := q1
  subst e
  cases r1
  obtain ⟨its, rv, p, hz⟩ := I1.tuple hq
  refine wpAny_pyIter_tuple (show s1.heap.IsTuple a its.toArray from p) ?_
  refine ⟨s1.heap.objs.size, [s1.heap.objs.size], _, _, H1, rfl, I1.kept (t' := s1.toks) fun b o e => Heap.get?_push_of_some _ e, turn_tuple a _, ⟨_, Heap.get?_push_size _ rfl, rfl, rfl⟩, fun b hb => ?_, q⟩
  have e : b = s1.heap.objs.size := by simpa using hb
  subst e
  exact I1.fpOk (Nat.le_refl _) (I1.hok.fresh (Nat.le_refl _))
theorem range_it {pins : List (Addr × Obj)} {σ : St} {H : Hp} {s : Shared} {R : It → Hp → Prop} {E : Value → Shared → Prop} {lo hi : Int} {t u v : Tok} {tk : Nat} (I : Inv X pins σ H s) (h1 : -(2 ^ 62) ≤ lo) (h2 : lo < 2 ^ 62) (h3 : -(2 ^ 62) ≤ hi) (h4 : hi < 2 ^ 62)
    (q : R (Itr lo (hi - lo).toNat) H) : wpAny (model X.prog X.w) X.A (pyIter (.ref s.heap.objs.size)) (PIE X pins σ tg R) E { s with heap := s.heap.push { cls := .type "range", data := .fields #[.int lo t, .int hi u, .int 1 v] }, toks := tk } := by
  refine wpAny_pyIter_range (IsRange.new ..) (small_one h1 h2 h3 h4) ?_
  have I1 : Inv X pins σ H { s with heap := s.heap.push { cls := .type "range", data := .fields #[.int lo t, .int hi u, .int 1 v] }, toks := tk } := I.kept fun b o e => Heap.get?_push_of_some _ e
  refine ⟨(s.heap.push { cls := .type "range", data := .fields #[.int lo t, .int hi u, .int 1 v] }).objs.size, [(s.heap.push { cls := .type "range", data := .fields #[.int lo t, .int hi u, .int 1 v] }).objs.size], _, _, H, rfl,
    I1.kept (t' := tk) fun b o e => Heap.get?_push_of_some _ e, turn_range _ lo (hi - lo).toNat, ?_, fun b hb => ?_, q⟩
  · have e1 : lo + ((0 : Nat) : Int) * 1 = lo := by simp
    have e2 : (((hi - lo).toNat : Nat) : Int) - ((0 : Nat) : Int) = Builtin.Range.rangeSize lo hi 1 := by rw [rangeSize_one]; split <;> omega
    show IsRangeIter _ _ (lo + ((0 : Nat) : Int) * 1) ((((hi - lo).toNat : Nat) : Int) - ((0 : Nat) : Int)) 1
    rw [e1, e2]
    exact Heap.get?_push_size _ rfl
  · have e : b = (s.heap.push { cls := .type "range", data := .fields #[.int lo t, .int hi u, .int 1 v] }).objs.size := by simpa using hb
    subst e
    exact I1.fpOk (Nat.le_refl _) (I1.hok.fresh (Nat.le_refl _))
def iRng1 (ta : TA) : TI := fun σ H R => ta σ H fun vs H1 => ∃ j : Int, vs = [.int j] ∧ -(2 ^ 62) ≤ j ∧ j < 2 ^ 62 ∧ R (Itr 0 j.toNat) H1
theorem pi_range1 {a : Expr} {ta : TA} {p pos : Pos} (hg : Gl X "range") (hm : X.mg "range" = none) (ha : PA X [a] ta) (hs : starEach [a] X.env = [(false, eval a X.env)] := by rfl) : PI X tg (.Call (.Name "range" p) [a] [] pos) (iRng1 ta) := by
  intro pins s σ H R I h
  refine Call_ (ld_blt I hg hm boot_range (PyProof.Rows.callWith_type1 (thn (ha pos pins s σ H _ I h) fun us s1 ⟨vs, H1, I1, r1, q1⟩ => ?_) hs rfl))
  obtain ⟨j, e, q1, q2, q⟩ := q1
  subst e
  cases r1 with
  | cons r rr =>
    cases rr
    obtain ⟨t, rfl⟩ := r
    exact call_range_1 (range_it I1 (by omega) (by omega) q1 q2 (by simpa using q))
def tFor (wi : TI) (g : TG) (tb : TS) : TS := fun D σ H => wi σ H fun J H1 => ∃ W : Nat → Nat → St → Hp → Prop, (∃ m, W 0 m σ H1) ∧ ∀ i m σ H, W i m σ H →
  (J.stop i H ∧ D.nx σ H) ∨ (J.go i H ∧ ∃ N : St → Hp → Prop, (∀ σ' H', N σ' H' → ∃ m', m' < m ∧ W (i + 1) m' σ' H') ∧ ∀ x H', J.yld i H x H' → g x σ H' fun σ2 H2 => tb { D with nx := N, ct := N, bk := D.nx } σ2 H2)
def pinsAt (fp : List Addr) (h : Heap) : List (Addr × Obj) := fp.filterMap fun b => (h.get? b).map fun o => (b, o)
theorem mem_pinsAt {fp : List Addr} {h : Heap} {b : Addr} {o : Obj} (hb : b ∈ fp) (e : h.get? b = some o) : (b, o) ∈ pinsAt fp h := List.mem_filterMap.mpr ⟨b, hb, by rw [e]; rfl⟩
theorem of_pinsAt {fp : List Addr} {h : Heap} {p : Addr × Obj} (hp : p ∈ pinsAt fp h) : p.1 ∈ fp ∧ h.get? p.1 = some p.2 := by
  obtain ⟨b, hb, e⟩ := List.mem_filterMap.mp hp
  cases q : h.get? b with
  | none => rw [q] at e; cases e
  | some o =>
    rw [q] at e
    have e' : (b, o) = p := Option.some.inj e
    subst e'
    exact ⟨hb, q⟩
theorem Inv.pinned {pins : List (Addr × Obj)} {σ : St} {H : Hp} {s : Shared} {fp : List Addr} (I : Inv X pins σ H s) (hf : ∀ b ∈ fp, FpOk X pins H b) (ho : ∀ b ∈ fp, ∃ o, s.heap.get? b = some o ∧ ∀ v, o.data ≠ .cell v) : Inv X (pins ++ pinsAt fp s.heap) σ H s :=
  I.pins_of fun p hp => (List.mem_append.mp hp).elim (fun z => I.pin p (List.mem_append_right _ z)) fun z => by
    obtain ⟨hb, e⟩ := of_pinsAt z
    obtain ⟨f0, f1, f2, _⟩ := hf p.1 hb
    obtain ⟨o, e', d⟩ := ho p.1 hb
    rw [e] at e'; cases e'
    exact ⟨e, f0, f1, f2, d⟩
theorem Inv.unpinned {pins pl : List (Addr × Obj)} {σ : St} {H : Hp} {s : Shared} (I : Inv X (pins ++ pl) σ H s) : Inv X pins σ H s := I.pins_of fun p hp => I.pin p (List.mem_append_right _ (List.mem_append_left _ hp))
theorem ps_for {iter : Expr} {body : List Stmt} {wi : TI} {g : TG} {tb : TS} {pos : Pos} (hp : PassesOwn (model X.prog X.w) X.A X.env X.xe) (hc : X.calm = true) (hi : PI X tg iter wi) (hg : PG X tg g) (hb : PSs X body tb)
    (hs : ∀ x, foldedSetIterable iter X.env x = pure x := by intro _; rfl) : PS X (.For tg iter body [] pos) (tFor wi g tb) := by
  intro pins s σ H D I h
  refine wpAny_For (thn (hi pins s σ H _ I h) fun v s1 h1 => thn h1 fun itv s2 h2 => ?_) hs
  obtain ⟨it, fp, tn, J, H2, e, I2, T, st2, f2, W, ⟨m0, w0⟩, turn⟩ := h2
  subst e
  -- what stays true of the iterator's objects through the loop
  have stat : ∀ {H' : Hp}, (∀ b ∈ fp, H' b = none) → ∀ b ∈ fp, FpOk X pins H' b := fun hn b hb => ⟨hn b hb, (f2 b hb).2⟩
  refine codeAny_forLoop_any (fun n s' => ∃ i σ' H', Inv X pins σ' H' s' ∧ tn i s'.heap ∧ (∀ b ∈ fp, H' b = none) ∧ W i n σ' H') ?_ m0 ⟨0, σ, H2, I2, st2, fun b hb => (f2 b hb).1, w0⟩
  rintro n s3 ⟨i, σ3, H3, I3, st3, fr3, w3⟩
  rcases turn i n σ3 H3 w3 with ⟨stop, qn⟩ | ⟨go, N, hN, step⟩
  · refine wpAny_passesOwn hp (thn (T.done X rfl rfl rfl hc i pins s3 σ3 H3 X.xe I3 (stat fr3) st3 stop) fun r s4 ⟨hr, I4⟩ => ?_)
    subst hr
    exact wpAny_execs_nil ⟨σ3, H3, I4, qn⟩
  · refine wpAny_passesOwn hp (thn (T.item X rfl rfl rfl hc i pins s3 σ3 H3 X.xe I3 (stat fr3) st3 go) fun r s4 ⟨u, hr, h4⟩ => ?_)
    subst hr
    refine wpAny_passesOwn hp (thn h4 fun _ s5 ⟨x, H5, I5, r5, y5, st5, fr5⟩ => ?_)
    have I5' := I5.pinned (stat fr5) (T.obj _ _ st5)
    refine wpAny_passesOwn hp (thn (hg _ s5 σ3 H5 x u _ I5' r5 (step x H5 y5)) fun _ s6 ⟨σ6, H6, I6, q6⟩ => ?_)
    refine wpAny_passesOwn hp (thn (hb _ s6 σ6 H6 _ I6 q6) fun f s7 q7 => ?_)
    have again : ∀ {σ7 : St} {H7 : Hp}, Inv X (pins ++ pinsAt fp s5.heap) σ7 H7 s7 → N σ7 H7 → ∃ m, m < n ∧ ∃ i σ' H', Inv X pins σ' H' s7 ∧ tn i s7.heap ∧ (∀ b ∈ fp, H' b = none) ∧ W i m σ' H' := fun {σ7 H7} I7 n7 => by
      obtain ⟨m', hm, w7⟩ := hN σ7 H7 n7
      refine ⟨m', hm, i + 1, σ7, H7, I7.unpinned, T.keep _ _ _ st5 fun b hb o e => (I7.pin (b, o) (List.mem_append_right _ (List.mem_append_right _ (mem_pinsAt hb e)))).1, fun b hb => ?_, w7⟩
      obtain ⟨o, e, d⟩ := T.obj _ _ st5 b hb
      exact (I7.pin (b, o) (List.mem_append_right _ (List.mem_append_right _ (mem_pinsAt hb e)))).2.1
    cases f with
    | next => obtain ⟨σ7, H7, I7, n7⟩ := q7; exact again I7 n7
    | cont => obtain ⟨σ7, H7, I7, n7⟩ := q7; exact again I7 n7
    | brk => obtain ⟨σ7, H7, I7, q7⟩ := q7; exact ⟨σ7, H7, I7.unpinned, q7⟩
    | ret v => obtain ⟨x7, σ7, H7, I7, r7, q7⟩ := q7; exact ⟨x7, σ7, H7, I7.unpinned, r7, q7⟩
end
end L2
namespace L2
open PySem PySem.Spec PyProof.Rows
abbrev R2 := V → V → Hp → VK → Prop
def OpR (X : Cx) (f : Value → Value → Sem Value) (r : R2) : Prop :=
  ∀ (pins : List (Addr × Obj)) (s : Shared) (σ : St) (H : Hp) (x y : V) (v u : Value) (Q : VK), Inv X pins σ H s → RelV x v → RelV y u → r x y H Q →
    wpAny (model X.prog X.w) X.A (f v u) (EP X pins σ Q) X.xe s
def UnR (X : Cx) (f : Value → Sem Value) (r : V → Hp → VK → Prop) : Prop :=
  ∀ (pins : List (Addr × Obj)) (s : Shared) (σ : St) (H : Hp) (x : V) (v : Value) (Q : VK), Inv X pins σ H s → RelV x v → r x H Q →
    wpAny (model X.prog X.w) X.A (f v) (EP X pins σ Q) X.xe s
def CallR (X : Cx) (f : Value) (r : List V → Hp → VK → Prop) : Prop :=
  ∀ (pins : List (Addr × Obj)) (s : Shared) (σ : St) (H : Hp) (xs : List V) (us : List Value) (Q : VK), Inv X pins σ H s → Vals xs us → r xs H Q →
    wpAny (model X.prog X.w) X.A (call f us) (EP X pins σ Q) X.xe s
def tOp (r : R2) (ta tb : TE) : TE := fun σ H Q => ta σ H fun x H1 => tb σ H1 fun y H2 => r x y H2 Q
def tUn (r : V → Hp → VK → Prop) (ta : TE) : TE := fun σ H Q => ta σ H fun x H1 => r x H1 Q
def rI (C : Int → Int → Prop) (g : Int → Int → V) : R2 := fun x y H Q => ∃ i j, x = .int i ∧ y = .int j ∧ C i j ∧ Q (g i j) H
def rI0 (g : Int → Int → V) : R2 := fun x y H Q => ∃ i j, x = .int i ∧ y = .int j ∧ Q (g i j) H
def rU (g : Int → V) : V → Hp → VK → Prop := fun x H Q => ∃ i, x = .int i ∧ Q (g i) H
section
variable {X : Cx} {a b c : Expr} {ta tb tc : TE} {pos : Pos}
theorem binT (ha : PE X a ta) (hb : PE X b tb) {pins : List (Addr × Obj)} {s : Shared} {σ : St} {H : Hp} {R : V → V → Hp → Prop} (I : Inv X pins σ H s)
    (h : ta σ H fun x H1 => tb σ H1 fun y H2 => R x y H2) {Q : Value → Shared → Prop} {f : Value → Value → Sem Value}
    (hf : ∀ v u s2 x y H2, Inv X pins σ H2 s2 → RelV x v → RelV y u → R x y H2 → wpAny (model X.prog X.w) X.A (f v u) Q X.xe s2) :
    wpAny (model X.prog X.w) X.A (eval a X.env) (fun v s₁ => wpAny (model X.prog X.w) X.A (eval b X.env) (fun u s₂ => wpAny (model X.prog X.w) X.A (f v u) Q X.xe s₂) X.xe s₁) X.xe s := by
  refine thn (ha pins s σ H _ I h) fun v s1 ⟨x, H1, I1, r1, q1⟩ => ?_
  refine thn (hb pins s1 σ H1 _ I1 q1) fun u s2 ⟨y, H2, I2, r2, q2⟩ => ?_
  exact hf v u s2 x y H2 I2 r1 r2 q2
theorem pe_op {op : Operator} {r : R2} (ho : OpR X (binaryOp op) r) (ha : PE X a ta) (hb : PE X b tb) : PE X (.BinOp a op b pos) (tOp r ta tb) := by
  intro pins s σ H Q I h
  exact wpAny_BinOp (binT ha hb I h fun v u s2 x y H2 I2 rx ry q => ho pins s2 σ H2 x y v u Q I2 rx ry q)
theorem pe_un {op : UnaryOp} {r : V → Hp → VK → Prop} (ho : UnR X (unaryOp op) r) (ha : PE X a ta) : PE X (.UnaryOp op a pos) (tUn r ta) := by
  intro pins s σ H Q I h
  exact UnaryOp_ (thn (ha pins s σ H _ I h) fun v s1 ⟨x, H1, I1, r1, q1⟩ => ho pins s1 σ H1 x v Q I1 r1 q1)
theorem opI {f : Value → Value → Sem Value} {C : Int → Int → Prop} {g : Int → Int → Int}
    (rule : ∀ (i j : Int) (t u : Tok) (s : Shared) (Q : Value → Shared → Prop) (E : Value → Shared → Prop), C i j → Q (.int (g i j) s.toks) { s with toks := s.toks + 1 } → wpAny (model X.prog X.w) X.A (f (.int i t) (.int j u)) Q E s) :
    OpR X f (rI C fun i j => .int (g i j)) := by
  intro pins s σ H x y v u Q I rx ry h
  obtain ⟨i, j, rfl, rfl, hc, q⟩ := h
  obtain ⟨t, rfl⟩ := rx
  obtain ⟨t', rfl⟩ := ry
  exact rule i j t t' s _ _ hc ⟨.int (g i j), H, I.tok _, ⟨_, rfl⟩, q⟩
theorem opI0 {f : Value → Value → Sem Value} {g : Int → Int → Int}
    (rule : ∀ (i j : Int) (t u : Tok) (s : Shared) (Q : Value → Shared → Prop) (E : Value → Shared → Prop), Q (.int (g i j) s.toks) { s with toks := s.toks + 1 } → wpAny (model X.prog X.w) X.A (f (.int i t) (.int j u)) Q E s) :
    OpR X f (rI0 fun i j => .int (g i j)) := by
  intro pins s σ H x y v u Q I rx ry h
  obtain ⟨i, j, rfl, rfl, q⟩ := h
  obtain ⟨t, rfl⟩ := rx
  obtain ⟨t', rfl⟩ := ry
  exact rule i j t t' s _ _ ⟨.int (g i j), H, I.tok _, ⟨_, rfl⟩, q⟩
theorem opB0 {f : Value → Value → Sem Value} {g : Int → Int → Bool}
    (rule : ∀ (i j : Int) (t u : Tok) (s : Shared) (Q : Value → Shared → Prop) (E : Value → Shared → Prop), Q (.bool (g i j)) s → wpAny (model X.prog X.w) X.A (f (.int i t) (.int j u)) Q E s) :
    OpR X f (rI0 fun i j => .bl (g i j)) := by
  intro pins s σ H x y v u Q I rx ry h
  obtain ⟨i, j, rfl, rfl, q⟩ := h
  obtain ⟨t, rfl⟩ := rx
  obtain ⟨t', rfl⟩ := ry
  exact rule i j t t' s _ _ ⟨.bl (g i j), H, I, rfl, q⟩
theorem op_add : OpR X (binaryOp .Add) (rI0 fun i j => .int (i + j)) := opI0 fun _ _ _ _ _ _ _ q => add_int q
theorem op_sub : OpR X (binaryOp .Sub) (rI0 fun i j => .int (i - j)) := opI0 fun _ _ _ _ _ _ _ q => sub_int q
theorem op_mod : OpR X (binaryOp .Mod) (rI (fun _ j => 0 < j) fun i j => .int (i % j)) := opI fun i j _ _ _ _ _ hc q => by
  have h1 : (0 : Int) < j := hc
  exact mod_int' (by omega) (by rw [Int.fmod_eq_emod_of_nonneg i (by omega)]; exact q)
theorem unI {f : Value → Sem Value} {g : Int → Int}
    (rule : ∀ (i : Int) (t : Tok) (s : Shared) (Q : Value → Shared → Prop) (E : Value → Shared → Prop), Q (.int (g i) s.toks) { s with toks := s.toks + 1 } → wpAny (model X.prog X.w) X.A (f (.int i t)) Q E s) :
    UnR X f (rU fun i => .int (g i)) := by
  intro pins s σ H x v Q I rx h
  obtain ⟨i, rfl, q⟩ := h
  obtain ⟨t, rfl⟩ := rx
  exact rule i t s _ _ ⟨.int (g i), H, I.tok _, ⟨_, rfl⟩, q⟩
theorem un_neg : UnR X (unaryOp .USub) (rU fun i => .int (-i)) := unI fun _ _ _ _ _ q => neg_int q
end
def scal : V → V → Bool
  | .non, .non => true | .non, .int _ => true | .int _, .non => true | .non, .bl _ => true | .bl _, .non => true | .non, .str _ => true | .str _, .non => true
  | .int _, .int _ => true | .bl _, .bl _ => true | .str _, .str _ => true | .byt _, .byt _ => true
  | .int _, .str _ => true | .str _, .int _ => true | .bl _, .str _ => true | .str _, .bl _ => true
  | _, _ => false
def rEq : R2 := fun x y H Q => scal x y = true ∧ Q (.bl (decide (x = y))) H
def rNe : R2 := fun x y H Q => scal x y = true ∧ Q (.bl (!decide (x = y))) H
theorem dec_int {i j : Int} : decide (V.int i = V.int j) = (i == j) := by
  rw [Bool.eq_iff_iff]
  simp
theorem dec_bl {i j : Bool} : decide (V.bl i = V.bl j) = (i == j) := by
  rw [Bool.eq_iff_iff]
  simp
theorem dec_str {i j : Str} : decide (V.str i = V.str j) = (i == j) := by
  rw [Bool.eq_iff_iff]
  simp
theorem dec_byt {i j : Array UInt8} : decide (V.byt i = V.byt j) = (i.toList == j.toList) := by
  rw [Bool.eq_iff_iff]
  cases i
  cases j
  simp
section
variable {X : Cx} {a b c : Expr} {ta tb tc : TE} {pos : Pos}
theorem fin_bl {pins : List (Addr × Obj)} {σ : St} {H : Hp} {s : Shared} {Q : VK} {k k' : Bool} (I : Inv X pins σ H s) (q : Q (.bl k) H) (e : k = k') : EP X pins σ Q (.bool k') s := by
  subst e
  exact ⟨.bl k, H, I, rfl, q⟩
theorem op_eq : OpR X (compareOp .Eq) rEq := by
  intro pins s σ H x y v u Q I rx ry h
  obtain ⟨hs, q⟩ := h
  cases x with
  | non =>
    cases rx
    cases y with
    | non => cases ry; exact PySem.EqNone.eq_none_none (fin_bl I q (by simp))
    | bl j => cases ry; exact PySem.EqNone.eq_none_bool (fin_bl I q (by simp))
    | int j => obtain ⟨t', rfl⟩ := ry; exact PySem.EqNone.eq_none_int (fin_bl I q (by simp))
    | str j => obtain ⟨t', rfl⟩ := ry; exact PySem.EqNone.eq_none_str (fin_bl I q (by simp))
    | _ => exact absurd (show false = true from hs) Bool.false_ne_true
  | bl i =>
    cases rx
    cases y with
    | non => cases ry; exact PySem.EqNone.eq_bool_none (fin_bl I q (by simp))
    | bl j => cases ry; exact eq_bool (fin_bl I q dec_bl)
    | str j => obtain ⟨t', rfl⟩ := ry; exact PySem.EqMixed.eq_bool_str (fin_bl I q (by simp))
    | _ => exact absurd (show false = true from hs) Bool.false_ne_true
  | int i =>
    obtain ⟨t, rfl⟩ := rx
    cases y with
    | non => cases ry; exact PySem.EqNone.eq_int_none (fin_bl I q (by simp))
    | int j => obtain ⟨t', rfl⟩ := ry; exact eq_int (fin_bl I q dec_int)
    | str j => obtain ⟨t', rfl⟩ := ry; exact PySem.EqMixed.eq_int_str (fin_bl I q (by simp))
    | _ => exact absurd (show false = true from hs) Bool.false_ne_true
  | str i =>
    obtain ⟨t, rfl⟩ := rx
    cases y with
    | non => cases ry; exact PySem.EqNone.eq_str_none (fin_bl I q (by simp))
    | bl j => cases ry; exact PySem.EqMixed.eq_str_bool (fin_bl I q (by simp))
    | int j => obtain ⟨t', rfl⟩ := ry; exact PySem.EqMixed.eq_str_int (fin_bl I q (by simp))
    | str j => obtain ⟨t', rfl⟩ := ry; exact eq_str (fin_bl I q dec_str)
    | _ => exact absurd (show false = true from hs) Bool.false_ne_true
  | byt i =>
    obtain ⟨t, rfl⟩ := rx
    cases y with
    | byt j => obtain ⟨t', rfl⟩ := ry; exact PySem.W.eq_bytes (fin_bl I q dec_byt)
    | _ => exact absurd (show false = true from hs) Bool.false_ne_true
  | _ => cases y <;> exact absurd (show false = true from hs) Bool.false_ne_true
theorem op_ne : OpR X (compareOp .NotEq) rNe := by
  intro pins s σ H x y v u Q I rx ry h
  obtain ⟨hs, q⟩ := h
  cases x with
  | non =>
    cases rx
    cases y with
    | non => cases ry; exact PySem.EqNone.ne_none_none (fin_bl I q (by simp))
    | bl j => cases ry; exact PySem.EqNone.ne_none_bool (fin_bl I q (by simp))
    | int j => obtain ⟨t', rfl⟩ := ry; exact PySem.EqNone.ne_none_int (fin_bl I q (by simp))
    | str j => obtain ⟨t', rfl⟩ := ry; exact PySem.EqNone.ne_none_str (fin_bl I q (by simp))
    | _ => exact absurd (show false = true from hs) Bool.false_ne_true
  | bl i =>
    cases rx
    cases y with
    | non => cases ry; exact PySem.EqNone.ne_bool_none (fin_bl I q (by simp))
    | bl j => cases ry; exact ne_bool (fin_bl I q (congrArg not dec_bl))
    | str j => obtain ⟨t', rfl⟩ := ry; exact PySem.EqMixed.ne_bool_str (fin_bl I q (by simp))
    | _ => exact absurd (show false = true from hs) Bool.false_ne_true
  | int i =>
    obtain ⟨t, rfl⟩ := rx
    cases y with
    | non => cases ry; exact PySem.EqNone.ne_int_none (fin_bl I q (by simp))
    | int j => obtain ⟨t', rfl⟩ := ry; exact ne_int (fin_bl I q (congrArg not dec_int))
    | str j => obtain ⟨t', rfl⟩ := ry; exact PySem.EqMixed.ne_int_str (fin_bl I q (by simp))
    | _ => exact absurd (show false = true from hs) Bool.false_ne_true
  | str i =>
    obtain ⟨t, rfl⟩ := rx
    cases y with
    | non => cases ry; exact PySem.EqNone.ne_str_none (fin_bl I q (by simp))
    | bl j => cases ry; exact PySem.EqMixed.ne_str_bool (fin_bl I q (by simp))
    | int j => obtain ⟨t', rfl⟩ := ry; exact PySem.EqMixed.ne_str_int (fin_bl I q (by simp))
    | str j => obtain ⟨t', rfl⟩ := ry; exact ne_str (fin_bl I q (congrArg not dec_str))
    | _ => exact absurd (show false = true from hs) Bool.false_ne_true
  | byt i =>
    obtain ⟨t, rfl⟩ := rx
    cases y with
    | byt j => obtain ⟨t', rfl⟩ := ry; exact PySem.W.ne_bytes (fin_bl I q (congrArg not dec_byt))
    | _ => exact absurd (show false = true from hs) Bool.false_ne_true
  | _ => cases y <;> exact absurd (show false = true from hs) Bool.false_ne_true
theorem op_lt : OpR X (compareOp .Lt) (rI0 fun i j => .bl (decide (i < j))) := opB0 fun _ _ _ _ _ _ _ q => lt_int q
theorem op_le : OpR X (compareOp .LtE) (rI0 fun i j => .bl (decide (i ≤ j))) := opB0 fun _ _ _ _ _ _ _ q => le_int q
theorem op_gt : OpR X (compareOp .Gt) (rI0 fun i j => .bl (decide (j < i))) := opB0 fun _ _ _ _ _ _ _ q => gt_int q
theorem nomark (b : Expr) {op : CmpOp} (h : op ≠ .In := by decide) (h2 : op ≠ .NotIn := by decide) : behindInMarks op b = false := by
  have e1 : (op == CmpOp.In) = false := by cases op <;> first | rfl | exact absurd rfl h
  have e2 : (op == CmpOp.NotIn) = false := by cases op <;> first | rfl | exact absurd rfl h2
  cases b <;> simp [behindInMarks, e1, e2]
theorem pe_cmpR {op : CmpOp} {r : R2} (ho : OpR X (compareOp op) r) (ha : PE X a ta) (hb : PE X b tb) (hm : behindInMarks op b = false) : PE X (.Compare a [op] [b] pos) (tOp r ta tb) := by
  intro pins s σ H Q I h
  exact wpAny_Compare1 (binT ha hb I h fun v u s2 x y H2 I2 rx ry q => ho pins s2 σ H2 x y v u Q I2 rx ry q) hm
def tTest (t : TE) : TT := fun σ H Q => t σ H fun x H' => ∃ k, x = .bl k ∧ Q k H'
theorem pt_cmpR {op : CmpOp} {r : R2} (ho : OpR X (compareOp op) r) (ha : PE X a ta) (hb : PE X b tb) (hm : behindInMarks op b = false) : PT X (.Compare a [op] [b] pos) (tTest (tOp r ta tb)) := by
  intro pins s σ H Q I h
  refine wpAny_isTrue_Compare1 (thn (ha pins s σ H _ I h) fun v s1 ⟨x, H1, I1, r1, q1⟩ => thn (hb pins s1 σ H1 _ I1 q1) fun u s2 ⟨y, H2, I2, r2, q2⟩ =>
    thn (ho pins s2 σ H2 x y v u _ I2 r1 r2 q2) fun c s3 ⟨z, H3, I3, r3, k, e, q3⟩ => ?_) hm
  subst e
  cases r3
  exact wpAny_truthy_bool ⟨H3, I3, q3⟩
def tChain (r r' : R2) (ta tb tc : TE) : TE := fun σ H Q => ta σ H fun x H1 => tb σ H1 fun y H2 => r x y H2 fun z H3 => ∃ k, z = .bl k ∧
  (if k = true then tc σ H3 fun w' H4 => r' y w' H4 Q else Q (.bl false) H3)
theorem pe_chain {op op' : CmpOp} {r r' : R2} (ho : OpR X (compareOp op) r) (ho' : OpR X (compareOp op') r') (ha : PE X a ta) (hb : PE X b tb) (hc : PE X c tc)
    (hm : lastMarks [op, op'] [b, c] = false := by with_unfolding_all rfl) : PE X (.Compare a [op, op'] [b, c] pos) (tChain r r' ta tb tc) := by
  intro pins s σ H Q I h
  refine Compare_chain (thn (ha pins s σ H _ I h) fun v s1 ⟨x, H1, I1, r1, q1⟩ => chain_link (thn (hb pins s1 σ H1 _ I1 q1) fun u s2 ⟨y, H2, I2, r2, q2⟩ =>
    thn (ho pins s2 σ H2 x y v u _ I2 r1 r2 q2) fun d s3 ⟨z, H3, I3, r3, k, e, q3⟩ => ?_)) hm
  subst e
  cases r3
  refine wpAny_truthy_bool ?_
  cases k with
  | false => exact ite_ff ⟨.bl false, H3, I3, rfl, q3⟩
  | true => exact ite_tt (chain_last (thn (hc pins s3 σ H3 _ I3 q3) fun w' s4 ⟨z', H4, I4, r4, q4⟩ => ho' pins s4 σ H4 y z' u w' Q I4 r2 r4 q4))
theorem line63 : (sizeLine : Nat) < 2 ^ 63 := by rw [sizeLine_eq]; decide
theorem op_add_str : OpR X (binaryOp .Add) (fun x y H Q => ∃ i j, x = .str i ∧ y = .str j ∧ i.length + j.length ≤ sizeLine ∧ Q (.str (i ++ j)) H) := by
  intro pins s σ H x y v u Q I rx ry h
  obtain ⟨i, j, rfl, rfl, hz, q⟩ := h
  obtain ⟨t, rfl⟩ := rx
  obtain ⟨t', rfl⟩ := ry
  exact add_str (fun t' tk => ⟨.str (i ++ j), H, I.tok _, ⟨_, rfl⟩, q⟩) hz
theorem vals1 {x : V} {us : List Value} (r : Vals [x] us) : ∃ u, us = [u] ∧ RelV x u := by
  cases r with
  | cons r1 r2 => cases r2; exact ⟨_, rfl, r1⟩
theorem vals2 {x y : V} {us : List Value} (r : Vals [x, y] us) : ∃ u w', us = [u, w'] ∧ RelV x u ∧ RelV y w' := by
  cases r with
  | cons r1 r2 =>
    cases r2 with
    | cons r3 r4 => cases r4; exact ⟨_, _, rfl, r1, r3⟩
theorem call_int1 : CallR X (.type "int") (fun xs H Q => (∃ i, xs = [.int i] ∧ Q (.int i) H) ∨ ∃ k, xs = [.bl k] ∧ Q (.int (if k then 1 else 0)) H) := by
  intro pins s σ H xs us Q I r h
  rcases h with ⟨i, rfl, q⟩ | ⟨k, rfl, q⟩
  · obtain ⟨u, rfl, t, rfl⟩ := vals1 r
    exact call_int_int ⟨.int i, H, I, ⟨_, rfl⟩, q⟩
  · obtain ⟨u, rfl, r1⟩ := vals1 r
    cases r1
    exact call_int_bool ⟨.int (if k then 1 else 0), H, I.tok _, ⟨_, rfl⟩, q⟩
end
end L2
namespace L2
open PySem PySem.Spec PyProof.Rows
structure ObjM (h : Heap) (x dx C : Addr) (mA : Str → Option Value) : Prop where
  obj : h.get? x = some (PySem.W.instObj C dx)
  ns : h.Ns1 dx mA
  ne : dx ≠ x
theorem lookIn_ns {h : Heap} {dx : Addr} {mA : Str → Option Value} (n : h.Ns1 dx mA) : ∃ od, h.get? dx = some od ∧ ∀ name, PySem.W.lookIn name od = some (mA name) := by
  obtain ⟨o, es, ep, ho, hd, hk, _, hm⟩ := n
  refine ⟨o, ho, fun name => ?_⟩
  have e := hm name
  unfold nsFind findBy at e
  rw [← Array.find?_toList] at e
  unfold PySem.W.lookIn
  rw [hd]
  dsimp only
  split
  · rename_i y q
    rw [q] at e
    exact congrArg some e
  · rename_i q
    rw [q] at e
    have a : es.toList.any (·.refKey) = false := by
      rw [List.any_eq_false]
      intro y hy
      obtain ⟨z, t, hkey⟩ := hk y (Array.mem_toList_iff.mp hy)
      simp [DictEntry.refKey, hkey]
    have a' : ¬ es.toList.any (·.refKey) = true := by rw [a]; exact Bool.false_ne_true
    rw [if_neg a']
    exact congrArg some e
theorem ObjM.look {h : Heap} {x dx C : Addr} {mA : Str → Option Value} (I : ObjM h x dx C mA) : ∃ od, PySem.W.InstAt h x (PySem.W.instObj C dx) C (some od) ∧ ∀ name, PySem.W.lookIn name od = some (mA name) :=
  let ⟨od, ho, hl⟩ := lookIn_ns I.ns
  ⟨od, ⟨I.obj, rfl, rfl, ho⟩, hl⟩
section
variable {prog : Program} {w : World} {A : Around} {E : Value → Shared → Prop} {s : Shared} {K : PySem.W.Frag} {x dx C f : Addr} {mA : Str → Option Value} {name : Str} {v : Value}
theorem get_map {expr : Bool} {Q : Value → Shared → Prop} (X : K.In s.heap) (I : ObjM s.heap x dx C mA) (hg : PySem.W.plainGet K C name = true) (hh : PySem.W.hasDictIn K C = true)
    (ha : PySem.W.findIn K (.ref C) name = some none) (hv : mA name = some v) (hv' : PySem.W.handedIn v = true) (h : Q v { s with toks := s.toks + 1 }) :
    wpAny (model prog w) A (getAttr (.ref x) name expr) Q E s := by
  obtain ⟨od, J, hl⟩ := I.look
  exact PySem.W.get_value X J (PySem.W.plainGet_of hg).1 (PySem.W.findObj_own hh ha rfl (by rw [hl, hv])) hv' h
theorem set_map {ns : List Str} {Q : Unit → Shared → Prop} (X : K.In s.heap) (I : ObjM s.heap x dx C mA)
    (hs : PySem.W.findIn K (.ref C) "__setattr__" = some (some (.builtin "object.__setattr__"))) (hp : PySem.W.plainOver K C = true) (ht : PySem.W.takerIn K C name = some none) (hh : PySem.W.hasDictIn K C = true)
    (hw : PySem.Within mA ns) (hsz : ns.length ≤ sizeLine)
    (h : ∀ h', ObjM h' x dx C (fun y => if y = name then some v else mA y) → Heap.SameBut dx s.heap h' → Q () { s with heap := h', toks := s.toks + 2 }) :
    wpAny (model prog w) A (setAttr (.ref x) name v) Q E s := by
  obtain ⟨od, J, hl⟩ := I.look
  refine PySem.W.set_plain X J hs (PySem.W.osa_open (s := { s with toks := s.toks + 1 }) (r := none) X J hp ht fun b => ?_)
  obtain ⟨cd, hc, hd'⟩ := PySem.W.any_some hh
  have hx : s.heap.get? x = some ⟨.ref C, some dx, .plain, #[]⟩ := I.obj
  refine wpAny_bind (wpAny_pure (wpAny_bind (wpAny_bind (wpAny_loadPart hx (wpAny_bind (PySem.W.Looks.here (s := { s with toks := s.toks + 1 }) (PySem.W.looks_clsIn X hc) ?_))))))
  rw [hd']
  refine wpAny_pure (a := some dx) (wpAny_bind (wpAny_pure (wpAny_bind ?_)))
  refine wpAny_nsSet1 (s := { s with toks := s.toks + 1 }) I.ns fun h' hn2 hs2 => ?_
  obtain ⟨oD, esD, epD, hoD, hdD, hcD⟩ := hn2.count (PySem.Within.cons name v hw)
  refine wpAny_bind (wpAny_lookBehind hoD (by rw [hdD]; exact pastItsLine_dict (Nat.le_trans hcD (by rw [List.length_cons]; omega))) ?_)
  exact wpAny_pure (h _ ⟨(hs2.2 _ (Ne.symm I.ne)).trans I.obj, hn2, I.ne⟩ hs2)
theorem make_map {R : Result → Shared → Prop} {vs : List Value} {kw : List (Str × Value)} (X : K.In s.heap) (hm : PySem.W.makesIn K C = true)
    (hi : PySem.W.findIn K (.ref C) "__init__" = some (some (.ref f))) (hf : PySem.W.typeIn K (.ref f) = some (.type "function"))
    (h : codeAny (model prog w) (A.under (.builtin "type.__call__" ⟨.ref C :: vs, kw⟩)) (.call (.ref f) ⟨.ref (s.heap.objs.size + 1) :: vs, kw⟩) (PySem.W.InitBack (s.heap.objs.size + 1) R)
      { s with heap := (s.heap.push PySem.W.emptyDict).push (PySem.W.instObj C s.heap.objs.size) }) :
    codeAny (model prog w) A (.call (.ref C) ⟨vs, kw⟩) R s := by
  obtain ⟨hh, g, d, t, os⟩ := s
  exact PySem.W.make_core (PySem.W.makes_of X hm) (PySem.W.looks_findIn X hi) (fun self => PySem.W.bind_fn X self hf) (.inl rfl) h
end
def putF (f : Str) (v : V) : List (Str × V) → List (Str × V)
  | [] => [(f, v)]
  | (g, x) :: r => if g = f then (g, v) :: r else (g, x) :: putF f v r
theorem lookup_putF (f g : Str) (v : V) : ∀ fs : List (Str × V), (putF f v fs).lookup g = if g = f then some v else fs.lookup g
  | [] => by
    show List.lookup g [(f, v)] = _
    by_cases h : g = f
    · have hb : (g == f) = true := beq_iff_eq.mpr h
      simp only [List.lookup, hb, if_pos h]
    · have hb : (g == f) = false := beq_eq_false_iff_ne.mpr h
      simp only [List.lookup, hb, if_neg h]
  | (k, x) :: r => by
    have ih := lookup_putF f g v r
    rw [show putF f v ((k, x) :: r) = (if k = f then (k, v) :: r else (k, x) :: putF f v r) from rfl]
    by_cases hk : k = f
    · rw [if_pos hk]
      by_cases h : g = k
      · have hb : (g == k) = true := beq_iff_eq.mpr h
        simp only [List.lookup, hb, if_pos (h.trans hk)]
      · have hb : (g == k) = false := beq_eq_false_iff_ne.mpr h
        simp only [List.lookup, hb, if_neg (fun e : g = f => h (e.trans hk.symm))]
    · rw [if_neg hk]
      by_cases h : g = k
      · have hb : (g == k) = true := beq_iff_eq.mpr h
        simp only [List.lookup, hb, if_neg (fun e : g = f => hk (h.symm.trans e))]
      · have hb : (g == k) = false := beq_eq_false_iff_ne.mpr h
        simp only [List.lookup, hb]
        exact ih
theorem keys_putF (f : Str) (v : V) : ∀ fs : List (Str × V), f ∈ (putF f v fs).map (·.1) ∧ ∀ g, g ∈ fs.map (·.1) → g ∈ (putF f v fs).map (·.1)
  | [] => ⟨by simp [putF], fun g h => by simp at h⟩
  | (k, x) :: r => by
    obtain ⟨i1, i2⟩ := keys_putF f v r
    rw [show putF f v ((k, x) :: r) = (if k = f then (k, v) :: r else (k, x) :: putF f v r) from rfl]
    by_cases hk : k = f
    · rw [if_pos hk]
      subst hk
      exact ⟨by simp, fun g h => by simpa using h⟩
    · rw [if_neg hk]
      refine ⟨?_, fun g h => ?_⟩
      · rw [List.map_cons]
        exact List.mem_cons_of_mem _ i1
      · rw [List.map_cons] at h ⊢
        rcases List.mem_cons.mp h with e | e
        · exact List.mem_cons.mpr (.inl e)
        · exact List.mem_cons_of_mem _ (i2 g e)
theorem length_putF (f : Str) (v : V) : ∀ fs : List (Str × V), (putF f v fs).length ≤ fs.length + 1
  | [] => by simp [putF]
  | (k, x) :: r => by
    have ih := length_putF f v r
    rw [show putF f v ((k, x) :: r) = (if k = f then (k, v) :: r else (k, x) :: putF f v r) from rfl]
    by_cases hk : k = f
    · rw [if_pos hk, List.length_cons, List.length_cons]; omega
    · rw [if_neg hk, List.length_cons, List.length_cons]; omega
theorem RelO.some_of {v : V} {o : Option Value} (r : RelO (some v) o) : ∃ u, o = some u ∧ RelV v u := by
  cases o with
  | none => exact (show False from r).elim
  | some u => exact ⟨u, rfl, r⟩
theorem handed_of {v : V} {u : Value} (r : RelV v u) : PySem.W.handedIn u = true := by
  cases v with
  | non => cases (show u = Value.none from r); rfl
  | bl b => cases (show u = Value.bool b from r); rfl
  | int i => obtain ⟨t, e⟩ := (show ∃ t, u = Value.int i t from r); cases e; rfl
  | str x => obtain ⟨t, e⟩ := (show ∃ t, u = Value.str x t from r); cases e; rfl
  | byt b => obtain ⟨t, e⟩ := (show ∃ t, u = Value.bytes b t from r); cases e; rfl
  | flt b => obtain ⟨t, e⟩ := (show ∃ t, u = Value.float b t from r); cases e; rfl
  | ref a => cases (show u = Value.ref a from r); rfl
  | ty n => cases (show u = Value.type n from r); rfl
section
variable {P : Program} {w : World} {H H' : Hp} {h h' : Heap} {a C dx : Addr} {fs fs' : List (Str × V)}
theorem ins_get (hok : HOk P w H h) (e : H a = some (.ins C dx fs)) : ∃ mA, ObjM h a dx C mA ∧ (∀ f, RelO (fs.lookup f) (mA f)) ∧ PySem.Within mA (fs.map (·.1)) ∧ fs.length ≤ 1000 ∧ H dx = some (.own a) := by
  obtain ⟨d, z, ne, ob, mA, n, r, q⟩ := (show ObjOk P w H h a (.ins C dx fs) from hok a _ e)
  exact ⟨mA, ⟨ob, n, ne⟩, r, q, z, d⟩
end
structure Cls (K : PySem.W.Frag) (C : Addr) : Prop where
  pg : PySem.W.plainGet K C Str.empty = true
  hd : PySem.W.hasDictIn K C = true
  po : PySem.W.plainOver K C = true
  sa : PySem.W.findIn K (.ref C) "__setattr__" = some (some (.builtin "object.__setattr__"))
theorem Cls.get {K : PySem.W.Frag} {C : Addr} (c : Cls K C) (f : Str) : PySem.W.plainGet K C f = true := c.pg
def NoAttr (K : PySem.W.Frag) (C : Addr) (f : Str) : Prop := PySem.W.findIn K (.ref C) f = some none
theorem NoAttr.taker {K : PySem.W.Frag} {C : Addr} {f : Str} (n : NoAttr K C f) : PySem.W.takerIn K C f = some none := by
  unfold PySem.W.takerIn
  rw [show PySem.W.findIn K (.ref C) f = some none from n]
  rfl
section
variable {X : Cx} {pins : List (Addr × Obj)} {σ : St} {H : Hp} {s : Shared} {a C dx : Addr} {fs : List (Str × V)} {f : Str} {v : V} {A : Around} {E : Value → Shared → Prop}
theorem getattr_ok {b : Bool} {Q : Value → Shared → Prop} (I : Inv X pins σ H s) (e : H a = some (.ins C dx fs)) (c : Cls X.K C) (n : NoAttr X.K C f) (l : fs.lookup f = some v)
    (h : ∀ u s', Inv X pins σ H s' → RelV v u → Q u s') : wpAny (model X.prog X.w) A (getAttr (.ref a) f b) Q E s := by
  obtain ⟨mA, O, r, _, _, _⟩ := ins_get I.hok e
  obtain ⟨u, hu, ru⟩ := RelO.some_of (v := v) (o := mA f) (by rw [← l]; exact r f)
  exact get_map I.kIn O (c.get f) c.hd n hu (handed_of ru) (h u _ (I.tok _) ru)
theorem setattr_ok {y : V} {u : Value} {Q : Unit → Shared → Prop} (I : Inv X pins σ H s) (e : H a = some (.ins C dx fs)) (c : Cls X.K C) (n : NoAttr X.K C f) (hl : fs.length < 1000) (ry : RelV y u)
    (h : ∀ s', Inv X pins σ (upd H a (.ins C dx (putF f y fs))) s' → Q () s') : wpAny (model X.prog X.w) A (setAttr (.ref a) f u) Q E s := by
  obtain ⟨mA, O, r, wi, _, ho⟩ := ins_get I.hok e
  have hz : (fs.map (·.1)).length ≤ sizeLine := by rw [List.length_map, sizeLine_eq]; omega
  refine set_map I.kIn O c.sa c.po n.taker c.hd wi hz fun h' O' sb => h _ ?_
  have hd : ∃ o, h'.get? dx = some o := let ⟨o, _, _, e', _⟩ := O'.ns; ⟨o, e'⟩
  refine I.write (x := a) (e := dx) (by rw [e]; exact True.intro) (.inr ho) (fun b q hb z => (sb.2 b hb).trans z) hd ?_
  refine ⟨by rw [upd_ne O.ne]; exact ho, ?_, O.ne, O'.obj, _, O'.ns, fun g => ?_, fun g hg => ?_⟩
  · have := length_putF f y fs; omega
  · show RelO ((putF f y fs).lookup g) (if g = f then some u else mA g)
    rw [lookup_putF]
    by_cases q : g = f
    · rw [if_pos q, if_pos q]; exact ry
    · rw [if_neg q, if_neg q]; exact r g
  · by_cases q : g = f
    · rw [q]; exact (keys_putF f y fs).1
    · refine (keys_putF f y fs).2 g (wi g fun z => hg ?_)
      show (if g = f then some u else mA g) = none
      rw [if_neg q]; exact z
theorem Inv.made (I : Inv X pins σ H s) : Inv X pins σ (upd (upd H s.heap.objs.size (.own (s.heap.objs.size + 1))) (s.heap.objs.size + 1) (.ins C s.heap.objs.size []))
    { s with heap := (s.heap.push PySem.W.emptyDict).push (PySem.W.instObj C s.heap.objs.size) } := by
  have e1 : (s.heap.push PySem.W.emptyDict).get? s.heap.objs.size = some PySem.W.emptyDict := Heap.get?_push_size s.heap rfl
  have e2 : ((s.heap.push PySem.W.emptyDict).push (PySem.W.instObj C s.heap.objs.size)).get? (s.heap.objs.size + 1) = some (PySem.W.instObj C s.heap.objs.size) := by
    have := Heap.get?_push_size (s.heap.push PySem.W.emptyDict) (o := PySem.W.instObj C s.heap.objs.size) rfl
    rwa [Heap.size_push] at this
  have e3 : (s.heap.push PySem.W.emptyDict).Ns s.heap.objs.size (fun _ => none) := ⟨PySem.W.emptyDict, #[], _, e1, rfl, (fun e he => absurd he (by simp)), fun _ => rfl⟩
  have I1 := I.laid (a := s.heap.objs.size) (o := .own (s.heap.objs.size + 1)) (h' := s.heap.push PySem.W.emptyDict) (t' := s.toks) (fun b u q => Heap.get?_push_of_some _ q) (Nat.le_refl _) ⟨_, e1⟩
  refine I1.laid (a := s.heap.objs.size + 1) (o := .ins C s.heap.objs.size []) (t' := s.toks) (fun b u q => Heap.get?_push_of_some _ q) (Nat.le_of_eq (Heap.size_push _ _)) ?_
  have ne : s.heap.objs.size ≠ s.heap.objs.size + 1 := Nat.ne_of_lt (Nat.lt_succ_self _)
  refine ⟨by rw [upd_ne ne, upd_same], Nat.zero_le _, ne, e2, fun _ => none, (Heap.Ns1.of_empty e3).at fun o q => Heap.get?_push_of_some _ q, fun _ => True.intro, fun y hy => absurd rfl hy⟩
theorem attr_of {prog : Program} {w : World} {env : Env} {e : Expr} {f : Str} {pos : Pos} {s : Shared} {Q : Value → Shared → Prop} (hb : attributeBase e f env (eval e env) = eval e env)
    (h : wpAny (model prog w) A (eval e env) (fun o s₁ => wpAny (model prog w) A (getAttr o f true) Q E s₁) E s) : wpAny (model prog w) A (eval (.Attribute e f pos) env) Q E s :=
  Attribute_any_ h (by rw [arm_eval_Attribute, hb])
end
def tFld (K : PySem.W.Frag) (ta : TE) (f : Str) : TE := fun σ H Q => ta σ H fun x H1 => ∃ a C dx fs v, x = .ref a ∧ H1 a = some (.ins C dx fs) ∧ Cls K C ∧ NoAttr K C f ∧ fs.lookup f = some v ∧ Q v H1
def sFld (K : PySem.W.Frag) (ta tv : TE) (f : Str) : TS := fun D σ H => tv σ H fun y H1 => ta σ H1 fun x H2 => ∃ a C dx fs, x = .ref a ∧ H2 a = some (.ins C dx fs) ∧ Cls K C ∧ NoAttr K C f ∧ fs.length < 1000 ∧
  D.nx σ (upd H2 a (.ins C dx (putF f y fs)))
section
variable {X : Cx} {o e value : Expr} {f : Str} {pos pos' tpos : Pos} {ta tv : TE}
theorem pe_fld (he : PE X e ta) (hb : attributeBase e f X.env (eval e X.env) = eval e X.env) : PE X (.Attribute e f pos) (tFld X.K ta f) := by
  intro pins s σ H Q I h
  refine attr_of hb (thn (he pins s σ H _ I h) fun u s1 ⟨x, H1, I1, rx, a, C, dx, fs, v, ex, ea, c, n, l, q⟩ => ?_)
  subst ex
  obtain rfl : u = Value.ref a := rx
  exact getattr_ok I1 ea c n l fun u' s2 I2 ru => ⟨v, H1, I2, ru, q⟩
theorem ps_fld (ha : PE X o ta) (hv : PE X value tv) (hs : swapsWith value (some (.Attribute o f pos')) pos.line X.env = pure false) : PS X (.Assign [.Attribute o f pos'] value pos) (sFld X.K ta tv f) := by
  intro pins s σ H D I h
  refine plainObj_wpAny_Assign_Attribute (thn (hv pins s σ H _ I h) fun u s1 ⟨y, H1, I1, ry, q⟩ => thn (ha pins s1 σ H1 _ I1 q) fun ov s2 ⟨x, H2, I2, rx, a, C, dx, fs, ex, ea, c, n, l, q2⟩ => ?_) hs
  subst ex
  obtain rfl : ov = Value.ref a := rx
  exact setattr_ok I2 ea c n l ry fun s3 I3 => ⟨σ, _, I3, q2⟩
end
section
variable {X : Cx} {pins : List (Addr × Obj)} {σ : St} {H : Hp} {s : Shared} {A : Around} {E : Value → Shared → Prop} {Q : Value → Shared → Prop} {c : Value} {b : Bool}
inductive TyOf (K : PySem.W.Frag) (H : Hp) : V → Value → Prop where
  | non : TyOf K H .non (.type "NoneType")
  | bl (x : Bool) : TyOf K H (.bl x) (.type "bool")
  | int (i : Int) : TyOf K H (.int i) (.type "int")
  | str (x : Str) : TyOf K H (.str x) (.type "str")
  | flt (x : UInt64) : TyOf K H (.flt x) (.type "float")
  | lst {a : Addr} {xs : List V} (e : H a = some (.lst xs)) : TyOf K H (.ref a) (.type "list")
  | frz {a : Addr} {o : Obj} {xs : List V} (e : H a = some (.frz o (.lst xs))) : TyOf K H (.ref a) (.type "list")
  | tup {a : Addr} {xs : List V} (e : H a = some (.tup xs)) : TyOf K H (.ref a) (.type "tuple")
  | dK {a : Addr} {kvs : List (Key × V)} (e : H a = some (.dK kvs)) : TyOf K H (.ref a) (.type "dict")
  | dT {a : Addr} {kvs : List (List Key × V)} (e : H a = some (.dT kvs)) : TyOf K H (.ref a) (.type "dict")
  | ins {a C dx : Addr} {fs : List (Str × V)} (e : H a = some (.ins C dx fs)) (cl : Cls K C) (ha : PySem.W.findIn K (.ref C) "__class__" = some (some (.builtin "object.__class__")))
      (hn : PySem.W.specialIn K (.builtin "object.__class__") "__get__" = some (some (.builtin "getset_descriptor.__get__"))) (htk : PySem.W.takesIn K (.builtin "object.__class__") = some true)
      (hm : PySem.W.mroIn K C (.type "object") = some true) : TyOf K H (.ref a) (.ref C)
theorem isinst_ok {x : V} {u t : Value} (I : Inv X pins σ H s) (rx : RelV x u) (ty : TyOf X.K H x t) (e : PySem.W.kitOne X.K t c = some b) (h : ∀ tk, Q (.bool b) { s with toks := tk }) :
    wpAny (model X.prog X.w) A (call (.builtin "isinstance") [u, c]) Q E s := by
  cases ty with
  | non => cases (show u = Value.none from rx); exact PySem.W.kia_one PySem.W.kitx_none I.kIn True.intro e (fun z => nomatch z) h
  | bl y => cases (show u = Value.bool y from rx); exact PySem.W.kia_one PySem.W.kitx_bool I.kIn True.intro e (fun z => nomatch z) h
  | int i => obtain ⟨t, q⟩ := (show ∃ t, u = Value.int i t from rx); cases q; exact PySem.W.kia_one PySem.W.kitx_int I.kIn True.intro e (fun z => nomatch z) h
  | str y => obtain ⟨t, q⟩ := (show ∃ t, u = Value.str y t from rx); cases q; exact PySem.W.kia_one PySem.W.kitx_str I.kIn True.intro e (fun z => nomatch z) h
  | flt y => obtain ⟨t, q⟩ := (show ∃ t, u = Value.float y t from rx); cases q; exact PySem.W.kia_one PySem.W.kitx_float I.kIn True.intro e (fun z => nomatch z) h
  | @lst a xs ea =>
    cases (show u = Value.ref a from rx)
    obtain ⟨_, _, n, _, h1⟩ := (show ObjOk X.prog X.w H s.heap a (.lst xs) from I.hok a _ ea)
    exact PySem.W.kia_one PySem.W.kitx_list I.kIn ⟨_, h1, rfl⟩ e (fun z => nomatch z) h
  | @frz a ob xs ea =>
    cases (show u = Value.ref a from rx)
    obtain ⟨_, _, _, n, _, h1⟩ := (show ObjOk X.prog X.w H s.heap a (.frz ob (.lst xs)) from I.hok a _ ea)
    exact PySem.W.kia_one PySem.W.kitx_list I.kIn ⟨_, h1, rfl⟩ e (fun z => nomatch z) h
  | @tup a xs ea =>
    cases (show u = Value.ref a from rx)
    obtain ⟨_, _, _, p⟩ := (show ObjOk X.prog X.w H s.heap a (.tup xs) from I.hok a _ ea)
    obtain ⟨o, h1, h2, _⟩ := p
    exact PySem.W.kia_one PySem.W.kitx_tuple I.kIn ⟨o, h1, h2⟩ e (fun z => nomatch z) h
  | @dK a kvs ea =>
    cases (show u = Value.ref a from rx)
    obtain ⟨_, _, vs, _, p⟩ := (show ObjOk X.prog X.w H s.heap a (.dK kvs) from I.hok a _ ea)
    obtain ⟨o, es, ep, h1, h2, _⟩ := p
    exact PySem.W.kia_one PySem.W.kitx_dict I.kIn ⟨o, h1, h2.1⟩ e (fun z => nomatch z) h
  | @dT a kvs ea =>
    cases (show u = Value.ref a from rx)
    obtain ⟨_, _, xs, _, o, es, ep, h1, h2, _⟩ := (show ObjOk X.prog X.w H s.heap a (.dT kvs) from I.hok a _ ea)
    exact PySem.W.kia_one PySem.W.kitx_dict I.kIn ⟨o, h1, h2.1⟩ e (fun z => nomatch z) h
  | @ins a C dx fs ea cl ha hn htk hm =>
    cases (show u = Value.ref a from rx)
    obtain ⟨mA, O, _⟩ := ins_get I.hok ea
    obtain ⟨od, J, _⟩ := O.look
    exact PySem.W.kia_one (PySem.W.kitx_own (cl.get _) cl.hd ha hn htk hm) I.kIn J e (fun z => nomatch z) h
end
end L2
namespace L2
open PySem PySem.Spec PyProof.Rows
structure Room (k : Nat) (A : Around) : Prop where
  hd : A.handled = none
  dp : A.depth + 3 * k + 5 < recursionLimit
  un : A.units + 16 * k + 200 < cLine
theorem Room.mono {j k : Nat} {A : Around} (r : Room k A) (h : j ≤ k) : Room j A := ⟨r.hd, by have := r.dp; omega, by have := r.un; omega⟩
theorem Room.deeper {k : Nat} {A : Around} (r : Room (k + 1) A) (env : Env) : Room k (A.deeper env) :=
  ⟨r.hd, by have := r.dp; show A.depth + 1 + 3 * k + 5 < _; omega, by have := r.un; show A.units + 3 + 16 * k + 200 < _; omega⟩
theorem make_depth {A : Around} {C : Addr} {us : List Value} {kw : List (Str × Value)} : (A.under (.builtin "type.__call__" ⟨.ref C :: us, kw⟩)).depth = A.depth + 1 := by
  first | rfl | simp [Around.under, Code.weight, Code.isCreation, Code.isGuard, Code.isCaller, Code.frames, Code.isFrame, guardIds]
theorem make_units {A : Around} {C : Addr} {us : List Value} {kw : List (Str × Value)} : (A.under (.builtin "type.__call__" ⟨.ref C :: us, kw⟩)).units = A.units + 1 := by
  first | rfl | simp [Around.under, Code.cUnits, Code.frames, Code.isFrame]
theorem Room.make {k : Nat} {A : Around} (r : Room (k + 1) A) (C : Addr) (us : List Value) (kw : List (Str × Value)) : Room k (A.under (.builtin "type.__call__" ⟨.ref C :: us, kw⟩)) :=
  ⟨r.hd, by have := r.dp; rw [make_depth]; omega, by have := r.un; rw [make_units]; omega⟩
theorem Room.depth {k : Nat} {A : Around} (r : Room k A) : A.depth < recursionLimit := by have := r.dp; omega
theorem Room.units {k : Nat} {A : Around} (r : Room k A) : A.units + 64 < cLine := by have := r.un; omega
def tNil : TA := fun _ H Q => Q [] H
def tCons (ta : TE) (tr : TA) : TA := fun σ H Q => ta σ H fun x H1 => tr σ H1 fun xs H2 => Q (x :: xs) H2
section
variable {X : Cx} {e : Expr} {es : List Expr} {te : TE} {t : TA} {pos : Pos}
theorem pa_nil : PA X [] tNil := fun _ _ _ _ H Q I h => Calls.spliced_nil ⟨[], H, I, .nil, h⟩
theorem pa_cons (ha : PE X e te) (hr : PA X es t) (hs : starEach (e :: es) X.env = (false, eval e X.env) :: starEach es X.env := by rfl) : PA X (e :: es) (tCons te t) := by
  intro pos pins s σ H Q I h
  rw [hs]
  show wpAny _ _ (spliced ((false, eval e X.env) :: backTo pos (starEach es X.env))) _ _ s
  refine Calls.spliced_cons (thn (ha pins s σ H _ I h) fun u s1 ⟨x, H1, I1, r1, q1⟩ => ?_)
  exact thn (hr pos pins s1 σ H1 _ I1 q1) fun us s2 ⟨xs, H2, I2, r2, q2⟩ => ⟨x :: xs, H2, I2, .cons r1 r2, q2⟩
def tTup (t : TA) : TE := fun σ H Q => t σ H fun xs H1 => xs.length ≤ sizeLine ∧ ∀ p, H1 p = none → Q (.ref p) (upd H1 p (.tup xs))
def tLst (t : TA) : TE := fun σ H Q => t σ H fun xs H1 => xs.length ≤ sizeLine ∧ ∀ p, H1 p = none → Q (.ref p) (upd H1 p (.lst xs))
theorem pe_tup {x1} (h : PA X es t) : PE X (.Tuple es x1 pos) (tTup t) := by
  intro pins s σ H Q I hq
  refine wpAny_Tuple_spliced (thn (h pos pins s σ H _ I hq) fun us s1 ⟨xs, H1, I1, r, z, q⟩ => ⟨by rw [← r.length]; exact z, ?_⟩)
  have hf : H1 s1.heap.objs.size = none := I1.hok.fresh (Nat.le_refl _)
  refine ⟨.ref s1.heap.objs.size, upd H1 s1.heap.objs.size (.tup xs), I1.laid (t' := s1.toks) (fun b u e => Heap.get?_push_of_some _ e) (Nat.le_refl _) ?_, rfl, q _ hf⟩
  exact ⟨z, us, r, ⟨_, Heap.get?_push_size _ rfl, rfl, _, rfl⟩⟩
theorem pe_lst (h : PA X es t) : PE X (.List es pos) (tLst t) := by
  intro pins s σ H Q I hq
  refine wpAny_List_spliced (thn (h pos pins s σ H _ I hq) fun us s1 ⟨xs, H1, I1, r, z, q⟩ => ⟨by rw [← r.length]; exact z, ?_⟩)
  have hf : H1 s1.heap.objs.size = none := I1.hok.fresh (Nat.le_refl _)
  refine ⟨.ref s1.heap.objs.size, upd H1 s1.heap.objs.size (.lst xs), I1.laid (t' := s1.toks) (fun b u e => Heap.get?_push_of_some _ e) (Nat.le_refl _) ?_, rfl, q _ hf⟩
  exact ⟨z, us, 0, r, Heap.get?_push_size _ rfl⟩
end
abbrev Sp := List V → Hp → VK → XK → Prop
abbrev CXT := List Env → Hp → Shared → XK → Value → Shared → Prop
structure Env0 (P : Program) (w : World) (K : PySem.W.Frag) (mg : Str → Option Value) (base : Heap) (A : Around) (outer : List Env) (s : Shared) (H : Hp) : Prop where
  frames : A.frames = some outer
  mod : Mod K mg base
  bs : ∀ b o, base.get? b = some o → s.heap.get? b = some o ∧ H b = none
  bsz : base.objs.size ≤ s.heap.objs.size
  funs : s.heap.FunFrames base outer
  frf : ∀ b ∈ frs outer, H b = none
  hok : HOk P w H s.heap
  bare : AllBare s.gens
def CE (outer : List Env) (P : Program) (w : World) (H : Hp) (s : Shared) (Q : VK) (u : Value) (s' : Shared) : Prop :=
  ∃ v H', s'.os = s.os ∧ AllBare s'.gens ∧ Un (frs outer) [] H H' s.heap s'.heap ∧ HOk P w H' s'.heap ∧ RelV v u ∧ Q v H'
def CR (CX : CXT) (outer : List Env) (P : Program) (w : World) (H : Hp) (s : Shared) (Q : VK) (E : XK) (r : Result) (s' : Shared) : Prop :=
  match r with
  | .ok (.ret u) => CE outer P w H s Q u s'
  | .ok _ => False
  | .error e => CX outer H s E e s'
structure FnOk (P : Program) (w : World) (K : PySem.W.Frag) (mg : Str → Option Value) (base : Heap) (CX : CXT) (k : Nat) (f : Addr) (fd : FuncData) (ps : List Str) (sp : Sp) : Prop where
  len : ∀ vs H Q E, sp vs H Q E → vs.length = ps.length
  run : ∀ (A : Around) (outer : List Env) (s : Shared) (H : Hp) (args : Args) (us : List Value) (vs : List V) (Q : VK) (E : XK), Room k A → Env0 P w K mg base A outer s H → BindsTo s fd args (ps.zip us) → Vals vs us → sp vs H Q E →
    codeAny (model P w) A (.call (.ref f) args) (CR CX outer P w H s Q E) s
theorem Env0.make {P : Program} {w : World} {K : PySem.W.Frag} {mg : Str → Option Value} {base : Heap} {A : Around} {outer : List Env} {s : Shared} {H : Hp} (e : Env0 P w K mg base A outer s H) (C : Addr) (us : List Value) (kw : List (Str × Value)) :
    Env0 P w K mg base (A.under (.builtin "type.__call__" ⟨.ref C :: us, kw⟩)) outer s H := ⟨by first | exact e.frames | (simpa [Around.under, Code.envs, Code.isFrame, pushEnvs] using e.frames), e.mod, e.bs, e.bsz, e.funs, e.frf, e.hok, e.bare⟩
section
variable {X : Cx} {pins : List (Addr × Obj)} {σ : St} {H : Hp} {s s' : Shared}
theorem Inv.env0 (I : Inv X pins σ H s) : Env0 X.prog X.w X.K X.mg X.base X.A X.stack s H :=
  ⟨I.ok.frames, I.ok.mod, I.bs, Nat.le_trans I.ok.bsz I.sz, I.stack, I.stkFree, I.hok, I.bare⟩
theorem Inv.after {Q : VK} {u : Value} (I : Inv X pins σ H s) (h : CE X.stack X.prog X.w H s Q u s') : EP X pins σ Q u s' := by
  obtain ⟨v, H', os, bare, un, hok, r, q⟩ := h
  obtain ⟨hh, g, d, t, os'⟩ := s'
  obtain rfl : os' = s.os := os
  exact ⟨v, H', I.call (h' := hh) (g' := g) (d' := d) (t' := t) (ch := []) un hok bare (fun b z => absurd z (by simp)), r, q⟩
end
def tCall (sp : Sp) (dvs : List V) (E : XK) (t : TA) : TE := fun σ H Q => t σ H fun vs H1 => sp (vs ++ dvs) H1 Q E
def tMake (C : Addr) (sp : Sp) (dvs : List V) (E : XK) (t : TA) : TE := fun σ H Q => t σ H fun vs H1 => ∀ x dx, H1 x = none → H1 dx = none → dx ≠ x →
  sp (.ref x :: (vs ++ dvs)) (upd (upd H1 dx (.own x)) x (.ins C dx [])) (fun v H2 => v = .non ∧ Q (.ref x) H2) E
def Binds (K : PySem.W.Frag) (fd : FuncData) (ps : List Str) (ds : List Value) : Prop :=
  ∀ (s : Shared) (us : List Value), K.In s.heap → (us ++ ds).length = ps.length → BindsTo s fd ⟨us, []⟩ (ps.zip (us ++ ds))
theorem Binds.all {K : PySem.W.Frag} {fd : FuncData} {ps : List Str} (h : ∀ us : List Value, us.length = ps.length → bindArgs fd ⟨us, []⟩ = pure (ps.zip us)) : Binds K fd ps [] := fun s us _ hl => by
  rw [List.append_nil] at hl ⊢
  exact .of_eq (h us hl)
def Passes (CX : CXT) (X : Cx) (E : XK) : Prop := ∀ (pins : List (Addr × Obj)) (σ : St) (H : Hp) (s : Shared) (e : Value) (s' : Shared), Inv X pins σ H s → CX X.stack H s E e s' → X.xe e s'
section
variable {X : Cx} {CX : CXT} {k : Nat} {f C : Addr} {fd : FuncData} {ps : List Str} {sp : Sp} {dvs : List V} {ds : List Value} {E : XK} {x m : Str} {p pos apos : Pos} {e o : Expr} {es : List Expr} {ta : TE} {t : TA}
theorem run_fn {pins : List (Addr × Obj)} {σ : St} {H : Hp} {s : Shared} {Q : VK} {us : List Value} {vs : List V} (F : FnOk X.prog X.w X.K X.mg X.base CX k f fd ps sp) (hr : Room k X.A) (hb : Binds X.K fd ps ds) (hd : Vals dvs ds) (hx : Passes CX X E)
    (I : Inv X pins σ H s) (r : Vals vs us) (h : sp (vs ++ dvs) H Q E) : wpAny (model X.prog X.w) X.A (call (.ref f) us) (EP X pins σ Q) X.xe s := by
  have r2 : Vals (vs ++ dvs) (us ++ ds) := r.append hd
  have hl : (us ++ ds).length = ps.length := by rw [← r2.length]; exact F.len _ _ _ _ h
  refine wpAny_call (codeAny_mono (F.run X.A X.stack s H ⟨us, []⟩ (us ++ ds) (vs ++ dvs) Q E hr I.env0 (hb s us I.kIn hl) r2 h) fun r s' hq => ?_)
  cases r with
  | error e => exact hx pins σ H s e s' I hq
  | ok fl =>
    cases fl with
    | ret u => exact I.after hq
    | next => exact False.elim hq
    | brk => exact False.elim hq
    | cont => exact False.elim hq
theorem pe_call (F : FnOk X.prog X.w X.K X.mg X.base CX k f fd ps sp) (hr : Room k X.A) (hg : Gl X x) (hm : X.mg x = some (.ref f)) (hk : PySem.W.keepIn X.K (.ref f) = true) (hb : Binds X.K fd ps ds) (hd : Vals dvs ds) (hx : Passes CX X E)
    (ha : PA X (e :: es) t) (hdb : (x == ("__debug__" : Str)) = false := by decide) (he : starEach (e :: es) X.env = (false, eval e X.env) :: starEach es X.env := by rfl) (hpl : (backTo pos (starEach es X.env)).any (·.1) = false := by rfl) :
    PE X (.Call (.Name x p) (e :: es) [] pos) (tCall sp dvs E t) := by
  intro pins s σ H Q I h
  refine wpAny_Call_Name_kw (ld_glob I hg hm ?_ hdb)
  refine PySem.W.callWith_K (h₀ := X.base) I.ok.mod.kin hk (thn (ha pos pins s σ H _ I h) fun us s1 ⟨vs, H1, I1, r, q⟩ => ⟨I1.kIn, ?_⟩) he hpl
  exact run_fn F hr hb hd hx I1 r q
structure Mk (K : PySem.W.Frag) (C f : Addr) : Prop where
  makes : PySem.W.makesIn K C = true
  init : PySem.W.findIn K (.ref C) "__init__" = some (some (.ref f))
  fn : PySem.W.isFn K (.ref f) = true
  kp : PySem.W.keepIn K (.ref C) = true
theorem run_make {pins : List (Addr × Obj)} {σ : St} {H : Hp} {s : Shared} {Q : VK} {us : List Value} {vs : List V} (M : Mk X.K C f) (F : FnOk X.prog X.w X.K X.mg X.base CX k f fd ps sp) (hr : Room (k + 1) X.A) (hb : Binds X.K fd ps ds) (hd : Vals dvs ds)
    (hx : Passes CX X E) (I : Inv X pins σ H s) (r : Vals vs us)
    (h : ∀ x dx, H x = none → H dx = none → dx ≠ x → sp (.ref x :: (vs ++ dvs)) (upd (upd H dx (.own x)) x (.ins C dx [])) (fun v H2 => v = .non ∧ Q (.ref x) H2) E) :
    wpAny (model X.prog X.w) X.A (call (.ref C) us) (EP X pins σ Q) X.xe s := by
  have hq := h (s.heap.objs.size + 1) s.heap.objs.size (I.hok.fresh (Nat.le_succ _)) (I.hok.fresh (Nat.le_refl _)) (Nat.ne_of_lt (Nat.lt_succ_self _))
  have I2 := Inv.made (C := C) I
  have r2 : Vals (V.ref (s.heap.objs.size + 1) :: (vs ++ dvs)) (Value.ref (s.heap.objs.size + 1) :: (us ++ ds)) := .cons rfl (r.append hd)
  have hl : (Value.ref (s.heap.objs.size + 1) :: us ++ ds).length = ps.length := by
    have e := r2.length
    rw [F.len _ _ _ _ hq] at e
    exact e.symm
  refine wpAny_call (make_map (f := f) I.kIn M.makes M.init (beq_iff_eq.mp M.fn) (codeAny_mono (F.run _ X.stack _ _ ⟨Value.ref (s.heap.objs.size + 1) :: us, []⟩ (Value.ref (s.heap.objs.size + 1) :: (us ++ ds)) _ _ E (hr.make C us [])
    (I2.env0.make C us []) (hb _ (Value.ref (s.heap.objs.size + 1) :: us) I2.kIn hl) r2 hq) fun r s' hq' => ?_))
  cases r with
  | error e => exact hx pins σ _ _ e s' I2 hq'
  | ok fl =>
    cases fl with
    | ret u =>
      obtain ⟨v, H', I3, rv, ev, q3⟩ := I2.after hq'
      subst ev
      exact ⟨rv, ⟨V.ref (s.heap.objs.size + 1), H', I3, rfl, q3⟩⟩
    | next => exact False.elim hq'
    | brk => exact False.elim hq'
    | cont => exact False.elim hq'
theorem pe_make (M : Mk X.K C f) (F : FnOk X.prog X.w X.K X.mg X.base CX k f fd ps sp) (hr : Room (k + 1) X.A) (hg : Gl X x) (hm : X.mg x = some (.ref C)) (hb : Binds X.K fd ps ds) (hd : Vals dvs ds) (hx : Passes CX X E)
    (ha : PA X (e :: es) t) (hdb : (x == ("__debug__" : Str)) = false := by decide) (he : starEach (e :: es) X.env = (false, eval e X.env) :: starEach es X.env := by rfl) (hpl : (backTo pos (starEach es X.env)).any (·.1) = false := by rfl) :
    PE X (.Call (.Name x p) (e :: es) [] pos) (tMake C sp dvs E t) := by
  intro pins s σ H Q I h
  refine wpAny_Call_Name_kw (ld_glob I hg hm ?_ hdb)
  refine PySem.W.callWith_K (h₀ := X.base) I.ok.mod.kin M.kp (thn (ha pos pins s σ H _ I h) fun us s1 ⟨vs, H1, I1, r, q⟩ => ⟨I1.kIn, ?_⟩) he hpl
  exact run_make M F hr hb hd hx I1 r q
end
section
variable {X : Cx} {CX : CXT} {k : Nat} {f C : Addr} {fd : FuncData} {ps ks : List Str} {sp : Sp} {E : XK} {x m : Str} {p pos apos kpos : Pos} {e o : Expr} {es : List Expr} {kws : List Keyword} {te ta : TE} {t tk : TA} {nm : Option Str}
variable {g : List Value → List Value → List Value} {gV : List V → List V → List V}
end
structure FnScope (N P : List Str) (sc : Scope) : Prop where
  kind : sc.kind = .function
  co : sc.isCoroutine = false
  gen : sc.isGenerator = false
  nd : N.Nodup
  pre : N.take P.length = P
  par : ∀ x ∈ P, sc.names.lookup x = some .local ∨ sc.names.lookup x = some .cell
  nofree : ∀ y ∈ sc.names, y.2 ≠ .free
theorem bindL_out {kindOf : Str → Option NameKind} {x : Str} : ∀ {binds : List (Str × Value)} {m : Str → Option Value}, (∀ v, (x, v) ∉ binds) → bindL kindOf binds m x = m x
  | [], _, _ => rfl
  | (n, v) :: r, m, h => by
    unfold bindL
    rw [bindL_out fun w hw => h w (List.mem_cons_of_mem _ hw)]
    split
    · have : x ≠ n := by rintro rfl; exact h v List.mem_cons_self
      simp [this]
    · rfl
theorem bindC_out {kindOf : Str → Option NameKind} {x : Str} : ∀ {binds : List (Str × Value)} {m : Str → Option Value}, (∀ v, (x, v) ∉ binds) → bindC kindOf binds m x = m x
  | [], _, _ => rfl
  | (n, v) :: r, m, h => by
    unfold bindC
    rw [bindC_out fun w hw => h w (List.mem_cons_of_mem _ hw)]
    split
    · rfl
    · have : x ≠ n := by rintro rfl; exact h v List.mem_cons_self
      simp [this]
theorem bindL_get {kindOf : Str → Option NameKind} {x : Str} {v : Value} : ∀ {P : List Str} {vs : List Value} {i : Nat} {m : Str → Option Value}, P.Nodup → P[i]? = some x → vs[i]? = some v → kindOf x = some .local →
    bindL kindOf (P.zip vs) m x = some v
  | [], _, _, _, _, h, _, _ => by simp at h
  | _ :: _, [], _, _, _, _, h, _ => by simp at h
  | p :: P, w :: vs, 0, m, nd, h1, h2, hk => by
    simp at h1 h2; subst h1; subst h2
    show bindL kindOf ((p, w) :: P.zip vs) m p = _
    unfold bindL
    rw [bindL_out fun v hv => (List.nodup_cons.mp nd).1 (List.of_mem_zip hv).1, if_pos hk]
    simp
  | p :: P, w :: vs, i + 1, m, nd, h1, h2, hk => by
    show bindL kindOf ((p, w) :: P.zip vs) m x = _
    unfold bindL
    exact bindL_get (i := i) (List.nodup_cons.mp nd).2 (by simpa using h1) (by simpa using h2) hk
theorem bindC_get {kindOf : Str → Option NameKind} {x : Str} {v : Value} : ∀ {P : List Str} {vs : List Value} {i : Nat} {m : Str → Option Value}, P.Nodup → P[i]? = some x → vs[i]? = some v → kindOf x ≠ some .local →
    bindC kindOf (P.zip vs) m x = some v
  | [], _, _, _, _, h, _, _ => by simp at h
  | _ :: _, [], _, _, _, _, h, _ => by simp at h
  | p :: P, w :: vs, 0, m, nd, h1, h2, hk => by
    simp at h1 h2; subst h1; subst h2
    show bindC kindOf ((p, w) :: P.zip vs) m p = _
    unfold bindC
    rw [bindC_out fun v hv => (List.nodup_cons.mp nd).1 (List.of_mem_zip hv).1, if_neg hk]
    simp
  | p :: P, w :: vs, i + 1, m, nd, h1, h2, hk => by
    show bindC kindOf ((p, w) :: P.zip vs) m x = _
    unfold bindC
    exact bindC_get (i := i) (List.nodup_cons.mp nd).2 (by simpa using h1) (by simpa using h2) hk
def start (N : List Str) (vs : List V) : St := vs.map some ++ List.replicate (N.length - vs.length) none
def cxOf (CX : CXT) (P : Program) (w : World) (K : PySem.W.Frag) (mg : Str → Option Value) (base : Heap) (N : List Str) (qual : Str) (scope : Scope) (f : Addr) (cd : Value) (A : Around) (outer : List Env) (s : Shared) (H : Hp) (E : XK) : Cx where
  prog := P
  w := w
  K := K
  mg := mg
  base := base
  A := A.deeper (envOfC qual scope s.heap.objs.size f cd)
  N := N
  s₀ := s
  H₀ := H
  env := envOfC qual scope s.heap.objs.size f cd
  outer := outer
  stack := envOfC qual scope s.heap.objs.size f cd :: outer
  ex := []
  calm := true
  fn := fun _ => true
  pn := []
  xe := fun e s' => wpAny (model P w) (A.deeper (envOfC qual scope s.heap.objs.size f cd)) (leaving (envOfC qual scope s.heap.objs.size f cd) e) (fun _ s'' => CX outer H s E e s'') (fun e' s'' => CX outer H s E e' s'') s'
theorem cell_has {sc : Scope} {n : Nat} {x : Str} (h : sc.names.lookup x = some .cell) : ∃ c, (cellsFrom n sc.names []).lookup x = some c := by
  have q := PySem.W.cellsFrom_some sc.names n [] (.inl h)
  exact Option.isSome_iff_exists.mp q
theorem inv_start {CX : CXT} {P : Program} {w : World} {K : PySem.W.Frag} {mg : Str → Option Value} {base : Heap} {N ps : List Str} {qual : Str} {scope : Scope} {f : Addr} {cd : Value} {A : Around} {outer : List Env} {s s1 : Shared} {H : Hp} {E : XK} {us : List Value} {vs : List V}
    (S : FnScope N ps scope) (hd : A.handled = none) (e0 : Env0 P w K mg base A outer s H) (hl : vs.length = ps.length) (r : Vals vs us)
    (x : InCallC s s.heap.objs.size (bindL (envOfC qual scope s.heap.objs.size f cd).kindOf (ps.zip us) fun _ => none) (cellsFrom (s.heap.objs.size + 1) scope.names []) (bindC (envOfC qual scope s.heap.objs.size f cd).kindOf (ps.zip us) fun _ => none) s1) :
    Inv (cxOf CX P w K mg base N qual scope f cd A outer s H E) [] (start N vs) H s1 := by
  have hpl : ps.length ≤ N.length := by have := congrArg List.length S.pre; rw [List.length_take] at this; omega
  obtain ⟨h1, tk, rfl, hk⟩ := x.done
  have noA : ∀ b : Addr, b ∉ (cxOf CX P w K mg base N qual scope f cd A outer s H E).ex := fun b z => absurd (show b ∈ ([] : List Addr) from z) (by simp)
  refine ⟨⟨e0.mod, S.kind, rfl, rfl, Nat.le_refl _, fun y z c h1 h2 => ?_, fun y hy => ?_, fun y c _ h => ?_, fun _ => hd, Around.frames_deeper e0.frames, .inr ⟨rfl, rfl⟩, fun b z => absurd z (noA b), e0.bs, e0.bsz, fun b _ _ => noA b, fun b z => absurd z (noA b), e0.funs, e0.frf⟩,
    rfl, e0.bare, Un.kept hk, ⟨_, x.toInCall.ns, fun i y v h1 h2 h3 => ?_⟩, fun y c h => ⟨_, x.cell y c h⟩, e0.hok.fresh (Nat.le_refl _), fun y c h => ?_, fun p hp => absurd (show p ∈ ([] : List (Addr × Obj)) from hp) (by simp), e0.hok.kept hk, ?_⟩
  · exact name_of_addr x.apart (PySem.mem_of_lookup h1) (PySem.mem_of_lookup h2)
  · have hy : scope.names.lookup y = some .cell ∨ scope.names.lookup y = some .free := hy
    rcases hy with hy | hy
    · exact cell_has hy
    · exact absurd rfl (S.nofree _ (PySem.mem_of_lookup hy))
  · exact Nat.le_of_lt (x.above y c (PySem.mem_of_lookup h))
  · have hi : i < vs.length := by
      unfold start at h2
      by_cases hi : i < vs.length
      · exact hi
      · rw [List.getElem?_append_right (by simpa using hi)] at h2
        rw [List.getElem?_replicate] at h2
        split at h2 <;> cases h2
    have ha : vs[i]? = some v := by
      unfold start at h2
      rw [List.getElem?_append_left (by simpa using hi), List.getElem?_map] at h2
      cases e : vs[i]? with
      | none => rw [e] at h2; cases h2
      | some a => rw [e] at h2; cases h2; rfl
    obtain ⟨u, hu, rv⟩ := r.get ha
    have hp : ps[i]? = some y := by
      rw [← S.pre, List.getElem?_take_of_lt (by omega)]; exact h1
    have ndP : ps.Nodup := by rw [← S.pre]; exact S.nd.sublist (List.take_sublist _ _)
    refine ⟨u, rv, ?_⟩
    rcases S.par y (List.mem_of_getElem? hp) with k | k
    · exact .inl ⟨k, bindL_get ndP hp hu k⟩
    · obtain ⟨c, e⟩ := cell_has (n := s.heap.objs.size + 1) k
      refine .inr ⟨.inl k, c, e, ?_⟩
      have q := x.cell y c e
      rw [bindC_get ndP hp hu (by show scope.names.lookup y ≠ _; rw [k]; decide)] at q
      exact q
  · exact e0.hok.fresh (Nat.le_of_lt (x.above y c (PySem.mem_of_lookup h)))
  · unfold start
    show _ = N.length
    rw [List.length_append, List.length_map, List.length_replicate]
    omega
theorem fn_of {CX : CXT} {P : Program} {w : World} {K : PySem.W.Frag} {mg : Str → Option Value} {base : Heap} {k : Nat} {f : Addr} {name qual : Str} {params : Arguments} {body : List Stmt} {scope : Scope} {dV kV doc pm cdv ct oc : Value} {an od : Option Addr}
    {osl : Array (Option Value)} {N ps : List Str} {sp : Sp} (lk : K.lookup f = some ⟨oc, od, .func (PySem.W.fnOf name qual params body scope dV kV doc pm an cdv ct), osl⟩) (hcd : PySem.W.codeIn K cdv qual = true) (S : FnScope N ps scope)
    (len : ∀ vs H Q E, sp vs H Q E → vs.length = ps.length)
    (hbody : ∀ (A : Around) (outer : List Env) (s : Shared) (H : Hp) (vs : List V) (Q : VK) (E : XK), Room k (A.deeper (envOfC qual scope s.heap.objs.size f cdv)) → sp vs H Q E →
      ∃ t, PSs (cxOf CX P w K mg base N qual scope f cdv A outer s H E) body t ∧ t { nx := fun _ H' => Q .non H', rt := Q } (start N vs) H) :
    FnOk P w K mg base CX (k + 1) f (PySem.W.fnOf name qual params body scope dV kV doc pm an cdv ct) ps sp := by
  refine ⟨len, fun A outer s H args us vs Q E hr e0 hb r hsp => ?_⟩
  have hl := len _ _ _ _ hsp
  have KX : K.In s.heap := e0.mod.kin.keeps fun b o e => (e0.bs b o e).1
  have lim : s.heap.NoLimit := e0.mod.nolimit.keeps fun b o e => (e0.bs b o e).1
  have hkind : ∀ y ∈ ps.zip us, scope.names.lookup y.1 = some .local ∨ (scope.names.lookup y.1 = some .cell ∧ ((cellsFrom (s.heap.objs.size + 1) scope.names []).lookup y.1).isSome = true) := fun ⟨n, v⟩ hy => by
    rcases S.par n (List.of_mem_zip hy).1 with q | q
    · exact .inl q
    · exact .inr ⟨q, PySem.W.cellsFrom_some _ _ _ (.inl q)⟩
  refine codeAny_call_function hr.depth (KX _ _ lk) rfl S.co S.gen rfl (PySem.W.codeRec_of KX hcd) (hb _ _ _ _ ?_)
  refine wpAny_newFunctionEnv_cells S.kind hkind fun env he s1 x => ?_
  subst he
  refine ⟨lim.keeps x.toInCall.keep, codeAny_func ?_⟩
  obtain ⟨t, ht, hq⟩ := hbody A outer s H vs Q E (hr.deeper _) hsp
  have I : Inv (cxOf CX P w K mg base N qual scope f cdv A outer s H E) [] (start N vs) H s1 := inv_start S hr.hd e0 hl r x
  refine wpAny_mono (ht [] s1 (start N vs) H _ I hq) (fun fl s' hs => ?_) fun e s' hs => hs
  have fin : ∀ {σ' : St} {H' : Hp} {v : V} {u : Value}, Inv (cxOf CX P w K mg base N qual scope f cdv A outer s H E) [] σ' H' s' → RelV v u → Q v H' → CE outer P w H s Q u s' :=
    fun {σ' H' v u} J rv q => ⟨v, H', J.os, J.bare, J.base, J.hok, rv, q⟩
  cases fl with
  | ret u =>
    obtain ⟨v, σ', H', J, rv, q⟩ := hs
    exact fin J rv q
  | next =>
    obtain ⟨σ', H', J, q⟩ := hs
    exact fin (v := V.non) (u := Value.none) J rfl q
  | brk =>
    obtain ⟨_, _, _, q⟩ := hs
    exact False.elim q
  | cont =>
    obtain ⟨_, _, _, q⟩ := hs
    exact False.elim q
end L2
namespace L2
open PySem PySem.Spec PyProof.Rows
section
variable {X : Cx} {x : Str} {p pos : Pos} {e : Expr} {es : List Expr} {t : TA} {id T : String} {r : List V → Hp → VK → Prop}
def tCB (r : List V → Hp → VK → Prop) (t : TA) : TE := fun σ H Q => t σ H fun vs H1 => r vs H1 Q
theorem pe_callB (hc : CallR X (.builtin id) r) (hg : Gl X x) (hm : X.mg x = none) (hv : bootBuiltins x = some (.builtin id)) (ha : PA X (e :: es) t) (hn : x ≠ "__name__" := by decide) (hdb : (x == ("__debug__" : Str)) = false := by decide)
    (he : starEach (e :: es) X.env = (false, eval e X.env) :: starEach es X.env := by rfl) (hpl : (backTo pos (starEach es X.env)).any (·.1) = false := by rfl) : PE X (.Call (.Name x p) (e :: es) [] pos) (tCB r t) := by
  intro pins s σ H Q I h
  refine wpAny_Call_Name_kw (ld_blt I hg hm hv ?_ hn hdb)
  exact PyProof.Rows.callWith_builtin1 (thn (ha pos pins s σ H _ I h) fun us s1 ⟨vs, H1, I1, r1, q1⟩ => hc pins s1 σ H1 vs us Q I1 r1 q1) he hpl
theorem pe_callTy (hc : CallR X (.type T) r) (hg : Gl X x) (hm : X.mg x = none) (hv : bootBuiltins x = some (.type T)) (ha : PA X (e :: es) t) (hn : x ≠ "__name__" := by decide) (hdb : (x == ("__debug__" : Str)) = false := by decide)
    (he : starEach (e :: es) X.env = (false, eval e X.env) :: starEach es X.env := by rfl) (hpl : (backTo pos (starEach es X.env)).any (·.1) = false := by rfl) : PE X (.Call (.Name x p) (e :: es) [] pos) (tCB r t) := by
  intro pins s σ H Q I h
  refine wpAny_Call_Name_kw (ld_blt I hg hm hv ?_ hn hdb)
  exact PyProof.Rows.callWith_type1 (thn (ha pos pins s σ H _ I h) fun us s1 ⟨vs, H1, I1, r1, q1⟩ => hc pins s1 σ H1 vs us Q I1 r1 q1) he hpl
end
end L2
namespace HT
open PySem PyProof.Rows
section
open PySem.SeqAt
open PySem.AutoSeq1 (wpAny_loadPart')
open PySem.MeetsSeq PySem.MeetsSeq2 PySem.MeetsSeq3
end
section
variable {prog : Program} {w : World} {A : Around} {E : Value → Shared → Prop} {s : Shared}
def sIx (n d : Nat) : Option Int → Nat
  | none => d
  | some v => if v < 0 then (v + (n : Int)).toNat else min v.toNat n
theorem sIx_none (n d : Nat) : sIx n d none = d := rfl
theorem sIx_nat (n d k : Nat) : sIx n d (some (k : Int)) = min k n := by
  show (if (k : Int) < 0 then ((k : Int) + (n : Int)).toNat else min (k : Int).toNat n) = min k n
  rw [if_neg (by omega), Int.toNat_natCast]
theorem clip_eq (v : Int) (n d : Nat) : (if v < 0 then max (v + (n : Int)) 0 else min v (n : Int)) = ((sIx n d (some v) : Nat) : Int) := by
  show (if v < 0 then max (v + (n : Int)) 0 else min v (n : Int)) = (((if v < 0 then (v + (n : Int)).toNat else min v.toNat n) : Nat) : Int)
  by_cases hv : v < 0
  · simp only [if_pos hv]; omega
  · simp only [if_neg hv]; omega
end
end HT
namespace L2
open PySem PySem.Spec PyProof.Rows
abbrev TO := St → Hp → (Option Int → Hp → Prop) → Prop
def PO (X : Cx) (e : Option Expr) (t : TO) : Prop :=
  ∀ (pins : List (Addr × Obj)) (s : Shared) (σ : St) (H : Hp) (Q : Option Int → Hp → Prop), Inv X pins σ H s → t σ H Q →
    wpAny (model X.prog X.w) X.A (evalPart e X.env) (fun u s' => ∃ o H', Inv X pins σ H' s' ∧ IsPart u o ∧ Q o H') X.xe s
def tNoPart : TO := fun _ H Q => Q none H
def tPart (t : TE) : TO := fun σ H Q => t σ H fun x H1 => ∃ i, x = .int i ∧ Q (some i) H1
theorem intsAre_of {ns : List Int} : ∀ {us : List Value}, Vals (ns.map V.int) us → IntsAre us ns := by
  induction ns with
  | nil => intro us r; rw [List.map_nil] at r; cases r; exact .nil
  | cons n ns ih =>
    intro us r
    rw [List.map_cons] at r
    cases r with
    | cons r1 r2 =>
      obtain ⟨t, e⟩ := r1
      subst e
      exact .cons n t (ih r2)
section
variable {X : Cx} {e : Expr} {te : TE} {lo hi : Option Expr} {tl th : TO} {pos p2 : Pos}
theorem po_none : PO X none tNoPart := by
  intro pins s σ H Q I h
  rw [evalPart_none]
  exact wpAny_pure ⟨none, H, I, .none, h⟩
theorem po_some (h : PE X e te) : PO X (some e) (tPart te) := by
  intro pins s σ H Q I hw
  rw [evalPart_some]
  refine thn (h pins s σ H _ I hw) fun u s1 ⟨x, H1, I1, r1, q1⟩ => ?_
  obtain ⟨i, rfl, q⟩ := q1
  obtain ⟨t, rfl⟩ := r1
  exact ⟨some i, H1, I1, .int i t, q⟩
def SlR (X : Cx) (r : V → Option Int → Option Int → Hp → VK → Prop) : Prop :=
  ∀ (pins : List (Addr × Obj)) (s : Shared) (σ : St) (H : Hp) (x : V) (v vl vu : Value) (lo hi : Option Int) (sl : Addr) (Q : VK), Inv X pins σ H s → RelV x v → s.heap.IsSliceOf sl vl vu .none → IsPart vl lo → IsPart vu hi → r x lo hi H Q →
    ∃ T id, typeLookup (.type T) "__getitem__" = pure (some (.builtin id)) ∧ s.TypeIs v T ∧ wpAny (model X.prog X.w) X.A (getItem v (.ref sl)) (EP X pins σ Q) X.xe s
def tSl (r : V → Option Int → Option Int → Hp → VK → Prop) (te : TE) (tl th : TO) : TE := fun σ H Q => te σ H fun x H1 => tl σ H1 fun l H2 => th σ H2 fun u H3 => r x l u H3 Q
theorem pe_slice {r : V → Option Int → Option Int → Hp → VK → Prop} (hr : SlR X r) (he : PE X e te) (hl : PO X lo tl) (hu : PO X hi th) : PE X (.Subscript e (.Slice lo hi none p2) pos) (tSl r te tl th) := by
  intro pins s σ H Q I h
  refine Subscript_ (thn (he pins s σ H _ I h) fun v s1 ⟨x, H1, I1, r1, q1⟩ => ?_)
  refine wpAny_Slice (thn (hl pins s1 σ H1 _ I1 q1) fun vl s2 ⟨l, H2, I2, pl, q2⟩ => thn (hu pins s2 σ H2 _ I2 q2) fun vu s3 ⟨u, H3, I3, pu, q3⟩ => ?_)
  rw [evalPart_none]
  refine wpAny_pure ?_
  have I4 : Inv X pins σ H3 { s3 with heap := s3.heap.push { cls := .type "slice", data := .fields #[vl, vu, .none] } } := I3.kept (t' := s3.toks) fun b ob q => Heap.get?_push_of_some _ q
  obtain ⟨T, id, hT, ht, hg⟩ := hr pins { s3 with heap := s3.heap.push { cls := .type "slice", data := .fields #[vl, vu, .none] } } σ H3 x v vl vu l u s3.heap.objs.size Q I4 r1 (Heap.IsSliceOf.new ..) pl pu q3
  show wpAny (model X.prog X.w) X.A (subscriptTail e (.Slice lo hi none p2) v (.ref s3.heap.objs.size)) (EP X pins σ Q) X.xe { s3 with heap := s3.heap.push { cls := .type "slice", data := .fields #[vl, vu, .none] } }
  exact tail_any (ops := [.ref s3.heap.objs.size, v]) ht hT hg (by with_unfolding_all rfl)
def cutV (xs : List V) (lo hi : Option Int) : List V := (xs.drop (HT.sIx xs.length 0 lo)).take (HT.sIx xs.length xs.length hi - HT.sIx xs.length 0 lo)
theorem cutV_length (xs : List V) (lo hi : Option Int) : (cutV xs lo hi).length ≤ xs.length := by
  unfold cutV
  rw [List.length_take, List.length_drop]
  omega
end
end L2
namespace L2
open PySem PySem.Spec PyProof.Rows
def ixN (n : Nat) (i : Int) : Option Nat := if 0 ≤ i then (if i < n then some i.toNat else none) else if -(n : Int) ≤ i then some (i + n).toNat else none
def atI {α : Type} (xs : List α) (i : Int) : Option α := (ixN xs.length i).bind fun j => xs[j]?
theorem ixN_seq {n : Nat} {i : Int} {j : Nat} (h : ixN n i = some j) : seqIndex? i n = some j ∧ j < n ∧ -(n : Int) ≤ i ∧ i < n := by
  unfold ixN at h
  by_cases h0 : 0 ≤ i
  · rw [if_pos h0] at h
    by_cases h1 : i < n
    · rw [if_pos h1] at h
      have e : i.toNat = j := Option.some.inj h
      exact ⟨by rw [seqIndex_of h0 h1, e], by omega, by omega, h1⟩
    · rw [if_neg h1] at h; cases h
  · rw [if_neg h0] at h
    by_cases h1 : -(n : Int) ≤ i
    · rw [if_pos h1] at h
      have e : (i + n).toNat = j := Option.some.inj h
      exact ⟨by rw [seqIndex_neg (by omega) h1, e], by omega, h1, by omega⟩
    · rw [if_neg h1] at h; cases h
theorem atI_get {α : Type} {xs : List α} {i : Int} {v : α} (h : atI xs i = some v) : ∃ j, seqIndex? i xs.length = some j ∧ xs[j]? = some v ∧ j < xs.length ∧ -(xs.length : Int) ≤ i ∧ i < xs.length := by
  unfold atI at h
  cases e : ixN xs.length i with
  | none => rw [e] at h; cases h
  | some j =>
    rw [e] at h
    obtain ⟨h1, h2, h3, h4⟩ := ixN_seq e
    exact ⟨j, h1, h, h2, h3, h4⟩
theorem atI_nat {α : Type} {xs : List α} {j : Nat} {v : α} (h : xs[j]? = some v) : atI xs (j : Int) = some v := by
  have hj : j < xs.length := (List.getElem?_eq_some_iff.mp h).1
  have e : ixN xs.length (j : Int) = some j := by
    unfold ixN
    rw [if_pos (by omega), if_pos (by omega)]; simp
  unfold atI; rw [e]; exact h
def PlainIx (b : Expr) : Prop := ∀ o i, subscripted b false o i = operate [o, i] (getItem o i)
def IxR (X : Cx) (r : R2) : Prop :=
  ∀ (value slice : Expr) (pins : List (Addr × Obj)) (s : Shared) (σ : St) (H : Hp) (x y : V) (v u : Value) (Q : VK), Inv X pins σ H s → RelV x v → RelV y u → r x y H Q →
    subscripted slice false v u = operate [v, u] (getItem v u) → wpAny (model X.prog X.w) X.A (subscriptTail value slice v u) (EP X pins σ Q) X.xe s
def MtR (X : Cx) (id : String) (r : V → List V → Hp → VK → Prop) : Prop :=
  ∀ (pins : List (Addr × Obj)) (s : Shared) (σ : St) (H : Hp) (x : V) (xs : List V) (v : Value) (us : List Value) (Q : VK), Inv X pins σ H s → RelV x v → Vals xs us → r x xs H Q →
    wpAny (model X.prog X.w) X.A (call (.builtin id) (v :: us)) (EP X pins σ Q) X.xe s
section
variable {X : Cx} {a b : Expr} {ta tb : TE} {pos : Pos}
theorem pe_ix {r : R2} (hr : IxR X r) (ha : PE X a ta) (hb : PE X b tb) (hs : PlainIx b) : PE X (.Subscript a b pos) (tOp r ta tb) := by
  intro pins s σ H Q I h
  exact Subscript_ (binT ha hb I h fun v u s2 x y H2 I2 rx ry q => hr a b pins s2 σ H2 x y v u Q I2 rx ry q (hs _ _))
def rIxL (K : PySem.W.Frag) : R2 := fun x y H Q => ∃ p xs i v, x = .ref p ∧ y = .int i ∧ SqL K H p xs ∧ atI xs i = some v ∧ Q v H
def rIxT (K : PySem.W.Frag) : R2 := fun x y H Q => ∃ p xs i v, x = .ref p ∧ y = .int i ∧ SqT K H p xs ∧ atI xs i = some v ∧ Q v H
def rIxS : R2 := fun x y H Q => ∃ z i c, x = .str z ∧ y = .int i ∧ z.length ≤ sizeLine ∧ atI z.cps.toList i = some c ∧ Q (.str ⟨#[c]⟩) H
theorem ix_list : IxR X (rIxL X.K) := by
  intro value slice pins s σ H x y v u Q I rx ry h hs
  obtain ⟨p, xs, i, z, rfl, rfl, hq, he, q⟩ := h
  cases rx
  obtain ⟨t, rfl⟩ := ry
  obtain ⟨its, r, pl, hz⟩ := I.list hq
  obtain ⟨j, h1, h2, h3, h4, h5⟩ := atI_get he
  obtain ⟨w, ew, rw'⟩ := r.get h2
  have hl := r.length
  have hn := line63
  have fin : EP X pins σ Q w s := ⟨z, H, I, rw', q⟩
  by_cases h0 : 0 ≤ i
  · have hj : i.toNat = j := by
      rw [seqIndex_of h0 h5] at h1
      exact Option.some.inj h1
    exact item_listR pl.isList h0 (by omega) (by rw [hj]; simpa using ew) fin hs
  · have hj : (i + (its.toArray.size : Int)).toNat = j := by
      rw [seqIndex_neg (by omega) h4] at h1
      rw [List.size_toArray, ← hl]
      exact Option.some.inj h1
    exact subscriptTail_builtinR (x := w) pl.isList.typeIs slot_list_getitem.lookup
      (wpAny_getItem_list_neg (Q := fun r s' => r = w ∧ EP X pins σ Q r s') pl.isList (by omega) (by rw [List.size_toArray] <;> omega) (by omega) (by rw [hj]; simpa using ew) ⟨rfl, fin⟩) hs
theorem ix_tup : IxR X (rIxT X.K) := by
  intro value slice pins s σ H x y v u Q I rx ry h hs
  obtain ⟨p, xs, i, z, rfl, rfl, hq, he, q⟩ := h
  cases rx
  obtain ⟨t, rfl⟩ := ry
  obtain ⟨its, r, pl, hz⟩ := I.tuple hq
  obtain ⟨j, h1, h2, h3, h4, h5⟩ := atI_get he
  obtain ⟨w, ew, rw'⟩ := r.get h2
  have hl := r.length
  have hn := line63
  have fin : EP X pins σ Q w s := ⟨z, H, I, rw', q⟩
  exact subscriptTail_builtinR (x := w) pl.typeIs slot_tuple_getitem.lookup
    (getItem_tuple (j := j) (Q := fun r s' => r = w ∧ EP X pins σ Q r s') pl (by omega) (by omega) (by rw [List.size_toArray, ← hl]; exact h1) (by simpa using ew) ⟨rfl, fin⟩) hs
theorem ix_str : IxR X rIxS := by
  intro value slice pins s σ H x y v u Q I rx ry h hs
  obtain ⟨z, i, c, rfl, rfl, hz, he, q⟩ := h
  obtain ⟨t, rfl⟩ := rx
  obtain ⟨t', rfl⟩ := ry
  obtain ⟨j, h1, h2, h3, h4, h5⟩ := atI_get he
  have hl : z.cps.toList.length = z.length := by simp [Str.length]
  rw [hl] at h1 h4 h5
  have hn := line63
  exact tail_any (typeIs_str s z t) slot_str_getitem.lookup (getItem_str (c := c) (by
    have e1 : decide (i < -(2 ^ 63 : Int)) = false := decide_eq_false (by omega)
    have e2 : decide (i ≥ 2 ^ 63) = false := decide_eq_false (by omega)
    rw [e1, e2, Bool.or_false]) (by rw [h1]; simpa using h2) ⟨.str ⟨#[c]⟩, H, I.tok _, ⟨_, rfl⟩, q⟩) hs
theorem mapSeq_set (its : List Value) (n j : Nat) (u : Value) : Obj.mapSeq (·.setIfInBounds j u) { cls := .type "list", data := .seq its.toArray n } = { cls := .type "list", data := .seq (its.set j u).toArray n } := by
  simp [Obj.mapSeq]
theorem Inv.lst {pins : List (Addr × Obj)} {σ : St} {H : Hp} {s : Shared} {p : Addr} {xs : List V} (I : Inv X pins σ H s) (h : H p = some (.lst xs)) :
    ∃ (its : List Value) (n : Nat), Vals xs its ∧ s.heap.get? p = some { cls := .type "list", data := .seq its.toArray n } ∧ xs.length ≤ sizeLine := by
  obtain ⟨z, its, n, r, e⟩ := I.hok p _ h
  exact ⟨its, n, r, e, z⟩
theorem Inv.lstUpd {pins : List (Addr × Obj)} {σ : St} {H : Hp} {s : Shared} {p : Addr} {xs ys : List V} {its its' : List Value} {n n' : Nat} {f : Obj → Obj} (I : Inv X pins σ H s) (h : H p = some (.lst xs))
    (ho : s.heap.get? p = some { cls := .type "list", data := .seq its.toArray n }) (hf : f { cls := .type "list", data := .seq its.toArray n } = { cls := .type "list", data := .seq its'.toArray n' }) (r : Vals ys its') (hz : ys.length ≤ sizeLine) (t : Nat) :
    Inv X pins σ (upd H p (.lst ys)) { s with heap := s.heap.update p f, toks := t } := by
  have e : (s.heap.update p f).get? p = some { cls := .type "list", data := .seq its'.toArray n' } := by
    rw [Heap.get?_update_self f ho (by rw [hf] <;> rfl), hf]
  refine I.write (x := p) (e := p) (by rw [h]; trivial) (.inl rfl) (fun b u hb q => (Heap.get?_update_other _ _ (Ne.symm hb)).trans q) ⟨_, e⟩ ?_
  exact ⟨hz, its', n', r, e⟩
def rSetL : V → V → V → Hp → (Hp → Prop) → Prop := fun o i v H Q => ∃ p xs k j, o = .ref p ∧ i = .int k ∧ H p = some (.lst xs) ∧ ixN xs.length k = some j ∧ Q (upd H p (.lst (xs.set j v)))
theorem set_list : PSet X rSetL := by
  intro pins s σ H o i v ov iv u Q I ro ri rv h
  obtain ⟨p, xs, k, j, rfl, rfl, hp, hj, q⟩ := h
  cases ro
  obtain ⟨t, rfl⟩ := ri
  obtain ⟨its, n, r, ho, hz⟩ := I.lst hp
  obtain ⟨h1, h2, h3, h4⟩ := ixN_seq hj
  have hl := r.length
  have hn := line63
  have I' : Inv X pins σ (upd H p (.lst (xs.set j v))) { s with heap := s.heap.update p (Obj.mapSeq (·.setIfInBounds j u)) } :=
    I.lstUpd hp ho (mapSeq_set its n j u) (r.set rv j) (by rw [List.length_set]; exact hz) s.toks
  by_cases h0 : 0 ≤ k
  · have hk : k.toNat = j := by
      rw [seqIndex_of h0 h4] at h1
      exact Option.some.inj h1
    exact PySem.W.ki_setAt ho h0 (by omega) (by rw [List.size_toArray, ← hl]; exact h4) (by rw [hk]; exact ⟨_, I', q⟩)
  · have hk : (k + (its.toArray.size : Int)).toNat = j := by
      rw [seqIndex_neg (by omega) h3] at h1
      rw [List.size_toArray, ← hl]
      exact Option.some.inj h1
    exact PySem.W.ki_setBack ho (by omega) (by rw [List.size_toArray, ← hl]; exact h3) (by omega) (by rw [hk]; exact ⟨_, I', q⟩)
theorem sb_some (i : Int) (n d : Nat) : max 0 (min (if i < 0 then i + (n : Int) else i) (n : Int)) = ((HT.sIx n d (some i) : Nat) : Int) := by
  rw [← HT.clip_eq]
  by_cases h : i < 0
  · rw [if_pos h, if_pos h, Int.max_comm, Int.min_eq_left (Int.add_le_of_le_sub_right (by rw [Int.sub_self]; exact Int.le_of_lt h))]
  · rw [if_neg h, if_neg h]
    exact Int.max_eq_right (Int.le_min.mpr ⟨Int.not_lt.mp h, Int.natCast_nonneg n⟩)
theorem slice_bounds (lo hi : Option Int) (n : Nat) : (sliceBounds lo hi none n).1 = ((HT.sIx n 0 lo : Nat) : Int) ∧ (sliceBounds lo hi none n).2.1 = ((HT.sIx n n hi : Nat) : Int) ∧ (sliceBounds lo hi none n).2.2 = 1 := by
  refine ⟨?_, ?_, rfl⟩
  · cases lo with
    | none => rfl
    | some i => exact sb_some i n 0
  · cases hi with
    | none => rfl
    | some i => exact sb_some i n n
theorem slicePick_cut (its : List Value) (lo hi : Option Int) : slicePick its.toArray lo hi none = ((its.drop (HT.sIx its.length 0 lo)).take (HT.sIx its.length its.length hi - HT.sIx its.length 0 lo)).toArray := by
  obtain ⟨h1, h2, h3⟩ := slice_bounds lo hi its.toArray.size
  unfold slicePick
  rw [h1, h2, h3]
  simp only [sliceRange_one, pick_run, List.size_toArray] <;> rfl
def rSlL (K : PySem.W.Frag) : V → Option Int → Option Int → Hp → VK → Prop := fun x lo hi H Q => ∃ a xs, x = .ref a ∧ SqL K H a xs ∧ ∀ p, H p = none → Q (.ref p) (upd H p (.lst (cutV xs lo hi)))
theorem sl_list : SlR X (rSlL X.K) := by
  intro pins s σ H x v vl vu lo hi sl Q I rx hs pl pu h
  obtain ⟨a, xs, rfl, hx, q⟩ := h
  cases rx
  obtain ⟨its, r, ht, hz⟩ := I.list hx
  have hlen := r.length
  refine ⟨"list", _, slot_list_getitem.lookup, ht.isList.typeIs, ?_⟩
  refine wpAny_getItem_list_slice ht.isList hs pl pu .none (by simp) ?_ (by rw [List.size_toArray] <;> omega)
  rw [slicePick_cut, ← hlen]
  refine ⟨.ref s.heap.objs.size, _, I.laid (t' := s.toks) (o := .lst (cutV xs lo hi)) (fun b ob q => Heap.get?_push_of_some _ q) (Nat.le_refl _) ?_, rfl, q _ (I.hok.fresh (Nat.le_refl _))⟩
  exact ⟨Nat.le_trans (cutV_length xs lo hi) hz, _, 0, (r.drop (HT.sIx xs.length 0 lo)).take (HT.sIx xs.length xs.length hi - HT.sIx xs.length 0 lo), Heap.get?_push_size _ rfl⟩
theorem call_len_seq : CallR X (.builtin "len") (fun xs H Q => ∃ p ys, xs = [.ref p] ∧ (SqL X.K H p ys ∨ SqT X.K H p ys) ∧ Q (.int ys.length) H) := by
  intro pins s σ H xs us Q I r h
  obtain ⟨p, ys, rfl, hq, q⟩ := h
  obtain ⟨u, rfl, rx⟩ := vals1 r
  cases rx
  have hn := line63
  rcases hq with hq | hq
  · obtain ⟨its, r', pl, hz⟩ := I.list hq
    have hlen := r'.length
    exact Calls.call_len_list pl.isList (by simp only [List.size_toArray] <;> omega) ⟨.int ys.length, H, I.tok _, ⟨s.toks + 1, by rw [List.size_toArray, hlen]⟩, q⟩
  · obtain ⟨its, r', pl, hz⟩ := I.tuple hq
    have hlen := r'.length
    exact len_tuple pl (by simp only [List.size_toArray] <;> omega) ⟨.int ys.length, H, I.tok _, ⟨s.toks + 1, by rw [List.size_toArray, hlen]⟩, q⟩
theorem call_len_str : CallR X (.builtin "len") (fun xs H Q => ∃ z, xs = [.str z] ∧ z.length ≤ sizeLine ∧ Q (.int z.length) H) := by
  intro pins s σ H xs us Q I r h
  obtain ⟨z, rfl, hz, q⟩ := h
  obtain ⟨u, rfl, t, rfl⟩ := vals1 r
  have hn := line63
  exact len_str (by omega) ⟨.int z.length, H, I.tok _, ⟨_, rfl⟩, q⟩
theorem call_list_of : CallR X (.type "list") (fun xs H Q => ∃ p ys, xs = [.ref p] ∧ (SqL X.K H p ys ∨ SqT X.K H p ys) ∧ ∀ l, H l = none → Q (.ref l) (upd H l (.lst ys))) := by
  intro pins s σ H xs us Q I r h
  obtain ⟨p, ys, rfl, hq, q⟩ := h
  obtain ⟨u, rfl, rx⟩ := vals1 r
  cases rx
  have fin : ∀ (its : List Value), Vals ys its → ys.length ≤ sizeLine → ∀ (h' : Heap) (c' : Nat), (∀ b o', s.heap.get? b = some o' → h'.get? b = some o') →
      h'.get? s.heap.objs.size = some { cls := .type "list", dict := none, data := .seq its.toArray c', slots := #[] } → EP X pins σ Q (.ref s.heap.objs.size) { s with heap := h' } := fun its r' hz h' c' kp e =>
    ⟨.ref s.heap.objs.size, _, I.laid (t' := s.toks) kp (Nat.le_refl _) (show ObjOk X.prog X.w _ h' _ (.lst ys) from ⟨hz, its, c', r', e⟩), rfl, q _ (I.hok.fresh (Nat.le_refl _))⟩
  rcases hq with hq | hq
  · obtain ⟨its, r', pl, hz⟩ := I.list hq
    have hlen := r'.length
    obtain ⟨o, ho, hc, n, hd⟩ := pl.isList
    exact call_list_seq p (.inl rfl) ho hc hd (fun h' c' kp e => fin its r' hz h' c' kp e) (by simp only [List.size_toArray] <;> omega)
  · obtain ⟨its, r', pl, hz⟩ := I.tuple hq
    have hlen := r'.length
    obtain ⟨o, ho, hc, n, hd⟩ := pl
    exact call_list_seq p (.inr rfl) ho hc hd (fun h' c' kp e => fin its r' hz h' c' kp e) (by simp only [List.size_toArray] <;> omega)
theorem call_tuple_of : CallR X (.type "tuple") (fun xs H Q => ∃ p ys, xs = [.ref p] ∧ ((SqL X.K H p ys ∧ ∀ l, H l = none → Q (.ref l) (upd H l (.tup ys))) ∨ (SqT X.K H p ys ∧ Q (.ref p) H))) := by
  intro pins s σ H xs us Q I r h
  obtain ⟨p, ys, rfl, h⟩ := h
  obtain ⟨u, rfl, rx⟩ := vals1 r
  cases rx
  rcases h with ⟨hq, q⟩ | ⟨hq, q⟩
  · obtain ⟨its, r', pl, hz⟩ := I.list hq
    have hlen := r'.length
    refine call_tuple_list pl.isList (fun h' kp => ?_) (by simp only [List.size_toArray] <;> omega)
    have I1 : Inv X pins σ H { s with heap := h' } := I.kept (t' := s.toks) kp
    have I2 : Inv X pins σ (upd H h'.objs.size (.tup ys)) { s with heap := h'.push { cls := .type "tuple", data := .seq its.toArray } } :=
      I1.laid (t' := s.toks) (fun b o e => Heap.get?_push_of_some _ e) (Nat.le_refl _) (show ObjOk X.prog X.w _ _ _ (.tup ys) from ⟨hz, its, r', IsTup.new _ _⟩)
    exact ⟨.ref h'.objs.size, _, I2, rfl, q _ (I1.hok.fresh (Nat.le_refl _))⟩
  · obtain ⟨its, r', pl, hz⟩ := I.tuple hq
    exact call_tuple_same pl ⟨.ref p, H, I, rfl, q⟩
def tyV (K : PySem.W.Frag) (T : String) (x : V) (H : Hp) : Prop := match x with
  | .str _ => T = "str"
  | .int _ => T = "int"
  | .ref p => (T = "list" ∧ ∃ xs, SqL K H p xs) ∨ (T = "tuple" ∧ ∃ o, K.lookup p = some o ∧ o.cls = .type "tuple" ∧ o.dict = none) ∨
      (T = "dict" ∧ ((∃ kvs, H p = some (.dK kvs)) ∨ ∃ kvs, H p = some (.dT kvs))) ∨ (T = "set" ∧ ∃ S n, H p = some (.set S n))
  | _ => False
theorem tyV_is {pins : List (Addr × Obj)} {σ : St} {H : Hp} {s : Shared} {T : String} {x : V} {v : Value} (I : Inv X pins σ H s) (r : RelV x v) (ty : tyV X.K T x H) :
    s.TypeIs v T ∧ ∀ a, v = .ref a → ∃ ob, s.heap.get? a = some ob ∧ ob.dict = none := by
  cases x with
  | str z =>
    obtain ⟨t, rfl⟩ := r
    cases (show T = "str" from ty)
    exact ⟨typeIs_str s z t, fun _ e => nomatch e⟩
  | int i =>
    obtain ⟨t, rfl⟩ := r
    cases (show T = "int" from ty)
    exact ⟨typeIs_int s i t, fun _ e => nomatch e⟩
  | ref p =>
    cases r
    rcases ty with ⟨rfl, xs, hq⟩ | ⟨rfl, o, hk, hc, hd⟩ | ⟨rfl, hk⟩ | ⟨rfl, S, n, hk⟩
    · obtain ⟨its, _, pl, _⟩ := I.list hq
      refine ⟨pl.isList.typeIs, fun a e => ?_⟩
      cases e
      obtain ⟨o, n, e, c, hd, _⟩ := pl
      exact ⟨o, e, hd⟩
    · refine ⟨⟨o, I.kIn p o hk, hc⟩, fun a e => ?_⟩
      cases e
      exact ⟨o, I.kIn _ o hk, hd⟩
    · have z : ∃ o, s.heap.get? p = some o ∧ o.ExactDict := by
        rcases hk with ⟨kvs, hk⟩ | ⟨kvs, hk⟩
        · obtain ⟨_, _, _, _, o, _, _, e, ex, _⟩ := I.hok p _ hk
          exact ⟨o, e, ex⟩
        · obtain ⟨_, _, _, _, o, _, _, e, ex, _⟩ := I.hok p _ hk
          exact ⟨o, e, ex⟩
      obtain ⟨o, e, ex⟩ := z
      refine ⟨⟨o, e, ex.1⟩, fun a e2 => ?_⟩
      cases e2
      exact ⟨o, e, ex.2.1⟩
    · obtain ⟨o, _, _, _, e, ex, _⟩ := I.hok p _ hk
      refine ⟨⟨o, e, ex.1⟩, fun a e2 => ?_⟩
      cases e2
      exact ⟨o, e, ex.2.1⟩
  | _ => exact False.elim ty
def tBM (K : PySem.W.Frag) (T : String) (r : V → List V → Hp → VK → Prop) (to : TE) (t : TA) : TE := fun σ H Q => to σ H fun x H1 => tyV K T x H1 ∧ t σ H1 fun xs H2 => r x xs H2 Q
variable {o e : Expr} {es : List Expr} {to : TE} {t : TA} {name : Str} {apos cpos : Pos} {T id : String} {r : V → List V → Hp → VK → Prop}
theorem pe_bm (pa : PlainAttrs T) (slot : Slot T name id) (hty : typeOf (.builtin id) = pure (.type "method_descriptor")) (hm : MtR X id r) (ho : PE X o to) (ha : PA X (e :: es) t)
    (hbase : attributeBase o name X.env (eval o X.env) = eval o X.env := by rfl)
    (hfew : ((backTo cpos (starEach (e :: es) X.env)).all (fun x => !x.1) && (backToKw cpos (keywordEach [] X.env)).all (fun x => x.1.isSome)
      && decide ((e :: es).length + ([] : List Keyword).length + (if ([] : List Keyword).isEmpty then 0 else 1) < 30)) = true := by rfl)
    (hline : (apos.endLine == cpos.line) = true := by rfl) (hs : starEach (e :: es) X.env = (false, eval e X.env) :: starEach es X.env := by rfl) (hplain : (backTo cpos (starEach es X.env)).any (·.1) = false := by rfl) :
    PE X (.Call (.Attribute o name apos) (e :: es) [] cpos) (tBM X.K T r to t) := by
  intro pins s σ H Q I h
  refine wpAny_Call_method_late hbase hfew hline rfl (thn (ho pins s σ H _ I h) fun v s1 ⟨x, H1, I1, r1, ty, q1⟩ => ?_)
  obtain ⟨h1, h2⟩ := tyV_is I1 r1 ty
  refine ⟨T, id, pa, slot, hty, h1, h2, ?_⟩
  have hA := ha cpos pins s1 σ H1 _ I1 q1
  rw [hs] at hA ⊢
  refine Calls.callWith_builtin (by show (false || (backTo cpos (starEach es X.env)).any (·.1)) = false; rw [hplain] <;> rfl) (Calls.evalArgs_plain ?_)
  exact thn hA fun us s2 ⟨vs, H2, I2, r2, q2⟩ => hm pins s2 σ H2 x vs v us Q I2 r1 r2 q2
/- xs.append(e), list.index on a module's tuple .. are MtR facts of 06m -/
end
end L2
namespace L2
open PySem PySem.Spec PyProof.Rows
def MtM (X : Cx) (id : String) (r : V → List V → Hp → VK → Prop) : Prop :=
  ∀ (pins : List (Addr × Obj)) (s : Shared) (σ : St) (H : Hp) (x : V) (xs : List V) (v : Value) (us : List Value) (Q : VK), Inv X pins σ H s → RelV x v → Vals xs us → r x xs H Q →
    wpAny (model X.prog X.w) X.A (call (.builtin id) (v :: us)) (EP X pins σ Q) X.xe s
theorem Vals.one : ∀ {x : V} {us : List Value}, Vals [x] us → ∃ u, us = [u] ∧ RelV x u
  | _, _, .cons r .nil => ⟨_, rfl, r⟩
section
variable {X : Cx} {pins : List (Addr × Obj)} {σ : St} {H : Hp} {s : Shared} {l b : Addr} {xs ys zs : List V}
theorem Inv.lset {its its' : List Value} {n : Nat} {f : Array Value → Array Value} {t' : Nat} (I : Inv X pins σ H s) (hH : H l = some (.lst xs))
    (e : s.heap.get? l = some { cls := .type "list", data := .seq its.toArray n }) (hf : f its.toArray = its'.toArray) (hv : Vals ys its') (hz : ys.length ≤ sizeLine) :
    Inv X pins σ (upd H l (.lst ys)) { s with heap := s.heap.update l (Obj.mapSeq f), toks := t' } := by
  have q := PySem.IsL.update e f
  rw [hf] at q
  refine I.write (x := l) (e := l) (by rw [hH]; exact trivial) (.inl rfl) (fun b' u hb hu => (Heap.get?_update_other s.heap (Obj.mapSeq f) (Ne.symm hb)).trans hu) ⟨_, q⟩ ?_
  exact ⟨hz, its', _, hv, q⟩
theorem Inv.lnew {its : List Value} {t' : Nat} (I : Inv X pins σ H s) (hv : Vals ys its) (hz : ys.length ≤ sizeLine) :
    Inv X pins σ (upd H s.heap.objs.size (.lst ys)) { s with heap := s.heap.push { cls := .type "list", data := .seq its.toArray }, toks := t' } :=
  I.laid (fun _ _ q => Heap.get?_push_of_some _ q) (Nat.le_refl _) ⟨hz, its, 0, hv, Heap.get?_push_size _ rfl⟩
theorem Inv.fresh (I : Inv X pins σ H s) : H s.heap.objs.size = none := I.hok.fresh (Nat.le_refl _)
theorem Inv.lstM (I : Inv X pins σ H s) (hH : H l = some (.lst xs)) : xs.length ≤ sizeLine ∧ ∃ (its : List Value) (n : Nat), Vals xs its ∧ xs.length = its.length ∧ s.heap.get? l = some { cls := .type "list", data := .seq its.toArray n } := by
  obtain ⟨z, its, n, r, e⟩ := I.hok l _ hH
  exact ⟨z, its, n, r, r.length, e⟩
end
section
variable {X : Cx}
def rAppend : V → List V → Hp → VK → Prop := fun x vs H Q => ∃ l xs y, x = .ref l ∧ vs = [y] ∧ H l = some (.lst xs) ∧ xs.length < sizeLine ∧ Q .non (upd H l (.lst (xs ++ [y])))
theorem mt_append : MtM X "list.append" rAppend := by
  intro pins s σ H x vs v us Q I rx rv h
  obtain ⟨l, xs, y, rfl, rfl, hH, hz, q⟩ := h
  cases rx
  obtain ⟨u, rfl, ru⟩ := rv.one
  obtain ⟨z, its, n, r, hl, e⟩ := I.lstM hH
  refine call_meets F.slot_list_append ⟨_, e, rfl⟩ F.entry_list_append (F.args_list_append_2 _ _) (PySem.list_append l its.toArray n u (by rw [List.size_toArray]; omega)) ⟨e, ?_⟩
  refine ⟨.non, _, I.lset (its' := its ++ [u]) hH e (by simp) (r.append (.cons ru .nil)) ?_, rfl, q⟩
  rw [List.length_append, List.length_singleton]
  omega
theorem len_rep {α : Type} (xs : List α) (k : Nat) : (List.replicate k xs).flatten.length = k * xs.length := by
  induction k with
  | zero => simp
  | succ k ih => rw [List.replicate_succ, List.flatten_cons, List.length_append, ih, Nat.succ_mul, Nat.add_comm]
end
section
variable {prog : Program} {w : World} {A : Around} {E : Value → Shared → Prop} {s : Shared}
end
section
variable {X : Cx}
end
end L2
namespace Att
open PySem PySem.W PySem.Calls PyProof.Rows
theorem ints_of_wellAll {P : Params} {h : Heap} : ∀ (ns : List Int) (vs : List Value), WellAll P h vs (ns.map WData.int) → IntsAre vs ns := by
  intro ns
  induction ns with
  | nil =>
    intro vs w
    rw [List.map_nil] at w
    cases w
    exact .nil
  | cons n ns ih =>
    intro vs w
    rw [List.map_cons] at w
    cases w with
    | cons a b =>
      cases a
      exact .cons _ _ (ih _ b)
theorem script_of {l : OpenLaw} {n : Nat} (hn : l.most = some n) {P : Params} {h : Heap} {args : List WData} {vals : List Value}
    (hpre : l.row.toRowW.claim.pre args = true) (hwl : WellAll P h vals args) :
    ∃ a vs ns, vals = [Value.ref a] ∧ args = [WData.list (ns.map WData.int)] ∧ h.get? a = some { cls := .type "list", data := .seq vs.toArray } ∧ IntsAre vs ns ∧ ns.length ≤ n := by
  have hsh : WShape.hasAll [] args [.list .int] = true := (pre_splitW hpre).1
  have hc : l.pre.holds [] { args := args } = true := (pre_splitW hpre).2
  obtain ⟨d, r, rfl, h1, h2⟩ := hasAllW_cons hsh
  obtain rfl := hasAllW_nil h2
  obtain ⟨xs, rfl, h3⟩ := hasW_list h1
  obtain ⟨ns, rfl⟩ := items_int h3
  have hlen : ns.length ≤ n := by
    unfold OpenLaw.pre at hc
    have h4 : (WTm.not (.lt (.lit (.int (n : Int))) (.len (.arg 0)))).holds [] { args := [.list (ns.map .int)] } = true := by
      have h4 := (holds_andW hc).1
      rw [hn] at h4
      exact h4
    have h5 := condW_of h4 (w_not (w_lt w_lit (w_len_list (w_arg rfl))))
    rw [List.length_map] at h5
    refine Nat.le_of_not_lt fun q => ?_
    have q' : (n : Int) < ((ns.length : Nat) : Int) := by omega
    first
      | (rw [decide_eq_true q'] at h5; exact absurd h5 (by decide))
      | (simp at h5; omega)
  cases hwl with
  | cons w1 w2 =>
    cases w2
    cases w1 with
    | list ho hall => exact ⟨_, _, ns, rfl, rfl, ho, ints_of_wellAll ns _ hall, hlen⟩
theorem post_true (l : OpenLaw) (args : List WData) : l.row.toRowW.claim.post args (.bool true) args = true :=
  postW_of (r := l.row.toRowW) (X := (true == true))
    (show WShape.has [] (.bool true) .bool = true by first | rfl | decide | simp [WShape.has, WShape.arms, WShape.armsAll])
    (show (WTm.eq .res (.lit (.bool true))).value [] { args := args, res := some (.bool true), after := args } = some (.bool (true == true)) from w_eq_bool (w_res rfl) w_lit) rfl
theorem attach_call {l : OpenLaw} {n : Nat} {q : Program} {loose : List Str} {XP : (Str → Option Value) → Heap → Prop} {YP : World → Heap → Prop} {d : DefRec}
    (hn : l.most = some n) (hdf : d.params.defaults = [])
    (call : ∀ (w : World) (s₀ s₁ : Shared) (mg mb : Str → Option Value) (fa : Addr) (o : Obj) (pm cd doc : Value) (a : Addr) (vs : List Value) (ns : List Int),
      Ground q loose [] XP w s₀ mg mb s₁.heap → YP w s₁.heap →
      s₁.heap.get? fa = some o → o.data = .func (docDef d.name d.params d.body d.scope pm cd doc) → s₁.heap.CodeRec cd d.name → mg d.name = some (.ref fa) →
      s₁.heap.get? a = some { cls := .type "list", data := .seq vs.toArray } → IntsAre vs ns → ns.length ≤ n → s₁.gens = #[] →
      codeAny (model l.prog w) callerA (.call (.ref fa) ⟨[.ref a], []⟩) (fun r s' => r = .ok (.ret (.bool true)) ∧ OldK s₁.heap s'.heap ∧ s'.os = s₁.os ∧ AllBare s'.gens) s₁) :
    WalkO q loose XP YP l.row.toRowW d [] (fun f vs => PySem.call f vs) := by
  intro w s₀ s₁ mg mb G Y fa o pm cd doc dV kV ho hd hcd hD hmg hg args vals as hpre hlay hrd hwl hlo
  obtain rfl : dV = .none := Dflts.none hD hdf
  obtain rfl : kV = .none := Dflts.noKw hD
  obtain ⟨a, vs, ns, rfl, rfl, hobj, hints, hlen⟩ := script_of hn hpre hwl
  refine enter_call (codeAny_mono (call w s₀ s₁ mg mb fa o pm cd doc a vs ns G Y ho (fd_plain hd) hcd hmg hobj hints hlen hg) fun r s' hq => ?_)
  obtain ⟨rfl, h2, h3, h4⟩ := hq
  exact ⟨.inl ⟨.bool true, .bool true, [], rfl, fun _ => rfl, .bool true, post_true l _, fun _ => ⟨List.Pairwise.nil, fun _ hm => (nomatch hm)⟩⟩, h2, h3, h4⟩
section
variable {prog : Program} {w : World} {A : Around} {E : Value → Shared → Prop} {s : Shared} {K : Frag}
end
end Att
namespace L2
open PySem PySem.Spec PyProof.Rows
theorem vals_ints : ∀ {vs : List Value} {ns : List Int}, IntsAre vs ns → Vals (ns.map V.int) vs
  | _, _, .nil => .nil
  | _, _, .cons n t h => .cons ⟨t, rfl⟩ (vals_ints h)
def Only (H : Hp) : Prop := ∀ b, H b = none ∨ ∃ o xs, H b = some (.frz o (.lst xs))
theorem law_call {P : Program} {w : World} {K : PySem.W.Frag} {mg mb : Str → Option Value} {CX : CXT} {k : Nat} {fa a : Addr} {fd : FuncData} {x : Str} {sp : Sp} {s₁ : Shared} {vs : List Value} {ns : List Int}
    (KX : K.In s₁.heap) (hns : s₁.heap.Ns mainGlobals mg) (hb : s₁.heap.Ns builtinsNs mb) (hbb : ∀ x : Str, x ≠ "__name__" → mb x = bootBuiltins x) (hlim : s₁.heap.NoLimit) (hsee : s₁.heap.NoSeer) (hg : s₁.gens = #[])
    (ha : s₁.heap.get? a = some { cls := .type "list", data := .seq vs.toArray }) (hi : IntsAre vs ns) (hl : ns.length ≤ sizeLine) (hr : Room k callerA)
    (F : ∀ base : Heap, K.In base → base.Ns mainGlobals mg → FnOk P w K mg base CX k fa fd [x] sp) (hbind : ∀ (s : Shared) (u : Value), BindsTo s fd ⟨[u], []⟩ [(x, u)])
    (hsp : ∀ H : Hp, Only H → SqL K H a (ns.map V.int) → sp [.ref a] H (fun v _ => v = .bl true) fun _ _ _ => False)
    (hCX : ∀ H e s', CX [] H s₁ (fun _ _ _ => False) e s' → False) :
    codeAny (model P w) callerA (.call (.ref fa) ⟨[.ref a], []⟩) (fun r s' => r = .ok (.ret (.bool true)) ∧ OldK s₁.heap s'.heap ∧ s'.os = s₁.os ∧ AllBare s'.gens) s₁ := by
  have rv := vals_ints hi
  have lenV := hi.length
  -- from an abstract heap in which nothing but the script may be tracked
  have core : ∀ H : Hp, Only H → SqL K H a (ns.map V.int) → HOk P w H s₁.heap → (∀ b, H b ≠ none → b = a) → (H a ≠ none → K.lookup a = none) →
      codeAny (model P w) callerA (.call (.ref fa) ⟨[.ref a], []⟩) (fun r s' => r = .ok (.ret (.bool true)) ∧ OldK s₁.heap s'.heap ∧ s'.os = s₁.os ∧ AllBare s'.gens) s₁ := by
    intro H hO hS hok hA hK
    have base_of : ∀ {b : Addr} {o : Obj}, s₁.heap.get? b = some o → H b = none → (hidT s₁.heap H).get? b = some o := fun e n => hidT_get e n
    have noA : ∀ {b : Addr} {o : Obj} {es : Array DictEntry} {ep : Nat}, s₁.heap.get? b = some o → o.data = .dict es ep → H b = none := fun {b o es ep} e d => by
      cases q : H b with
      | none => rfl
      | some u =>
        have e' : b = a := hA b (by rw [q]; simp)
        subst e'
        rw [ha] at e; cases e
        have d' : Data.seq vs.toArray _ = Data.dict es ep := d
        cases d'
    have noM : ∀ {b : Addr} {o : Obj}, s₁.heap.get? b = some o → o.cls = .type "module" → H b = none := fun {b o} e d => by
      cases q : H b with
      | none => rfl
      | some u =>
        have e' : b = a := hA b (by rw [q]; simp)
        subst e'
        rw [ha] at e; cases e
        have d' : Value.type "list" = Value.type "module" := d
        injection d' with z
        exact absurd z (by decide)
    have nsK : ∀ {b : Addr} {m : Str → Option Value}, s₁.heap.Ns b m → (hidT s₁.heap H).Ns b m := fun {b m} ⟨o, es, ep, e, d, r⟩ => ⟨o, es, ep, base_of e (noA e d), d, r⟩
    have hKb : K.In (hidT s₁.heap H) := fun b o e => base_of (KX b o e) (by
      cases q : H b with
      | none => rfl
      | some u =>
        have e' : b = a := hA b (by rw [q]; simp)
        subst e'
        rw [hK (by rw [q]; simp)] at e; cases e)
    have hM : Mod K mg (hidT s₁.heap H) := ⟨hKb, nsK hns, ⟨mb, nsK hb, hbb⟩, (let ⟨mc, h1, h2⟩ := hlim; ⟨mc, nsK h1, h2⟩), ⟨(let ⟨mc, a1, b1⟩ := hsee.statics; ⟨mc, nsK a1, b1⟩), (let ⟨mc, a1, b1⟩ := hsee.mods; ⟨mc, nsK a1, b1⟩), (let ⟨mc, a1, b1⟩ := hsee.imp; ⟨mc, nsK a1, b1⟩), (let ⟨mg', bm, ob, a1, b1, c1, d1, f1⟩ := hsee.main; ⟨mg', bm, ob, nsK a1, b1, base_of c1 (noM c1 d1), d1, f1⟩)⟩⟩
    have e0 : Env0 P w K mg (hidT s₁.heap H) callerA [] s₁ H := ⟨rfl, hM, fun b o e => of_hidT e, Nat.le_of_eq (hidT_size _ _), trivial, fun b hb => absurd (show b ∈ ([] : List Addr) from hb) (by simp), hok, .of_eq hg⟩
    refine codeAny_mono ((F _ hKb (nsK hns)).run callerA [] s₁ H ⟨[.ref a], []⟩ [.ref a] [.ref a] _ _ hr e0 (hbind s₁ (.ref a)) (.cons rfl .nil) (hsp H hO hS)) fun r s' h => ?_
    cases r with
    | error e => exact (hCX H e s' h).elim
    | ok fl =>
      cases fl with
      | next => exact False.elim h
      | brk => exact False.elim h
      | cont => exact False.elim h
      | ret u =>
        obtain ⟨v, H', os, bare, un, hok', r', q⟩ := h
        have q' : v = .bl true := q
        subst q'
        obtain rfl : u = Value.bool true := r'
        refine ⟨rfl, OldK.of_keep fun b o e => ?_, os, bare⟩
        cases q : H b with
        | none => exact un.keep b o e q (by intro z; exact absurd (show b ∈ ([] : List Addr) from z) (by simp)) (by simp)
        | some u =>
          rcases hO b with z | ⟨ob, xs, z⟩
          · rw [q] at z; cases z
          · have z2 := un.frzs b ob _ z
            obtain ⟨e1, _⟩ := hok b _ z
            obtain ⟨e2, _⟩ := hok' b _ z2
            rw [e] at e1; cases e1
            exact e2
  cases hk : K.lookup a with
  | some o =>
    -- the script is one of the module's own objects
    have e := KX a o hk
    rw [ha] at e
    cases e
    refine core (fun _ => none) (fun _ => .inl rfl) (.inr ⟨_, vs.toArray, _, hk, rfl, rfl, rfl, by rw [List.size_toArray, lenV]; exact hl, by simpa using rv⟩) (fun b u z => by have z' : (none : Option HO) = some u := z; cases z') (fun b z => absurd rfl z) fun z => absurd rfl z
  | none =>
    refine core (fun b => if b = a then some (.frz { cls := .type "list", data := .seq vs.toArray } (.lst (ns.map V.int))) else none) (fun b => ?_) (.inl (.inr ⟨{ cls := .type "list", data := .seq vs.toArray }, if_pos rfl⟩)) (fun b u z => ?_) (fun b z => ?_) fun _ => hk
    · by_cases hb : b = a
      · exact .inr ⟨_, _, if_pos hb⟩
      · exact .inl (if_neg hb)
    · by_cases hb : b = a
      · have z' := (if_pos hb).symm.trans z
        cases z'
        subst hb
        exact ⟨ha, by rw [List.length_map]; exact hl, vs, _, rv, ha⟩
      · have z' := (if_neg hb).symm.trans z
        cases z'
    · by_cases hb : b = a
      · exact hb
      · exact absurd (if_neg hb) z
end L2
namespace L2
open PySem PySem.Spec PyProof.Rows
abbrev KOf {K : PySem.W.Frag} {h : Heap} (_ : K.In h) : PySem.W.Frag := K
theorem walk_of {l : PySem.W.OpenLaw} {n k : Nat} {q : Program} {loose : List Str} {XP : (Str → Option Value) → Heap → Prop} {YP : World → Heap → Prop} {d : DefRec} {K : Params → PySem.W.Frag} {CX : World → CXT} {sp : World → Sp} {x : Str}
    (hn : l.most = some n) (hn2 : n ≤ sizeLine) (hi : importsNone q = true) (hdf : d.params.defaults = []) (hr : Room k callerA)
    (hY : ∀ (w : World) (h : Heap), YP w h → (K w.params).In h)
    (F : ∀ (w : World) (mg : Str → Option Value) (fa : Addr) (h : Heap), (K w.params).In h → h.Ns mainGlobals mg → mg d.name = some (.ref fa) →
      ∃ fd : FuncData, (∀ (s : Shared) (u : Value), BindsTo s fd ⟨[u], []⟩ [(x, u)]) ∧
        ∀ base : Heap, (K w.params).In base → base.Ns mainGlobals mg → FnOk l.prog w (K w.params) mg base (CX w) k fa fd [x] (sp w))
    (hsp : ∀ (w : World) (H : Hp) (a : Addr) (ns : List Int), ns.length ≤ n → Only H → SqL (K w.params) H a (ns.map V.int) → sp w [.ref a] H (fun v _ => v = .bl true) fun _ _ _ => False)
    (hCX : ∀ (w : World) (H : Hp) (s : Shared) (e : Value) (s' : Shared), CX w [] H s (fun _ _ _ => False) e s' → False) :
    PySem.W.WalkO q loose XP YP l.row.toRowW d [] (fun f vs => PySem.call f vs) := by
  refine Att.attach_call hn hdf fun w s₀ s₁ mg mb fa o pm cd doc a vs ns G Y ho hd hcd hmg hobj hints hlen hg => ?_
  have KX := hY w _ Y
  obtain ⟨fd, hb, hF⟩ := F w mg fa _ KX G.T.g hmg
  exact law_call KX G.T.g G.T.b G.T.builtins G.T.nolimit (G.T.seer hi) hg hobj hints (Nat.le_trans hlen hn2) hr hF hb (fun H hO hS => hsp w H a ns hlen hO hS) fun H e s' => hCX w H s₁ e s'
end L2
namespace L2
open PySem PySem.Spec PyProof.Rows
abbrev CX0 : CXT := fun _ _ _ _ _ _ => False
abbrev E0 : XK := fun _ _ _ => False
theorem pass0 {X : Cx} : Passes CX0 X E0 := fun _ _ _ _ _ _ _ h => h.elim
structure Fun (K : PySem.W.Frag) (x qual : Str) (st : Stmt) (f : Addr) (fd : FuncData) : Prop where
  ex : ∃ (oc : Value) (od : Option Addr) (kV doc pm : Value) (an : Option Addr) (cdv ct : Value) (osl : Array (Option Value)),
    fd = PySem.W.fnOf x qual (defArgs st) (defBody st) (defScope st) .none kV doc pm an cdv ct ∧ K.lookup f = some ⟨oc, od, .func fd, osl⟩ ∧ PySem.W.codeIn K cdv qual = true
  kp : PySem.W.keepIn K (.ref f) = true
section
variable {P : Program} {w : World} {K : PySem.W.Frag} {mg : Str → Option Value} {base : Heap}
theorem Fun.ok {x qual : Str} {st : Stmt} {f : Addr} {fd : FuncData} {N ps : List Str} {k : Nat} {sp : Sp} (F : Fun K x qual st f fd) (S : FnScope N ps (defScope st)) (len : ∀ vs H Q E, sp vs H Q E → vs.length = ps.length)
    (hbody : ∀ (cdv : Value) (A : Around) (outer : List Env) (s : Shared) (H : Hp) (vs : List V) (Q : VK) (E : XK), Room k (A.deeper (envOfC qual (defScope st) s.heap.objs.size f cdv)) → sp vs H Q E →
      ∃ t, PSs (cxOf CX0 P w K mg base N qual (defScope st) f cdv A outer s H E).nox (defBody st) t ∧ t { nx := fun _ H' => Q .non H', rt := Q } (start N vs) H) : FnOk P w K mg base CX0 (k + 1) f fd ps sp := by
  obtain ⟨oc, od, kV, doc, pm, an, cdv, ct, osl, rfl, lk, hcd⟩ := F.ex
  refine fn_of lk hcd S len fun A outer s H vs Q E hr hsp => ?_
  obtain ⟨t, h, q⟩ := hbody cdv A outer s H vs Q E hr hsp
  exact ⟨t, h.nox, q⟩
theorem Fun.binds {x qual : Str} {st : Stmt} {f : Addr} {fd : FuncData} {ps : List Str} (F : Fun K x qual st f fd)
    (h : ∀ (kV doc pm : Value) (an : Option Addr) (cdv ct : Value) (us : List Value), us.length = ps.length → bindArgs (PySem.W.fnOf x qual (defArgs st) (defBody st) (defScope st) .none kV doc pm an cdv ct) ⟨us, []⟩ = pure (ps.zip us)) : Binds K fd ps [] := by
  obtain ⟨oc, od, kV, doc, pm, an, cdv, ct, osl, rfl, lk, hcd⟩ := F.ex
  exact .all (h kV doc pm an cdv ct)
theorem fun_mk {x qual : Str} {st : Stmt} {f : Addr} {oc : Value} {od an : Option Addr} {osl : Array (Option Value)} {kV doc pm cdv ct : Value} (l : K.lookup f = some ⟨oc, od, .func (PySem.W.fnOf x qual (defArgs st) (defBody st) (defScope st) .none kV doc pm an cdv ct), osl⟩)
    (c : PySem.W.codeIn K cdv qual = true) (k : PySem.W.keepIn K (.ref f) = true) : Fun K x qual st f (PySem.W.fnOf x qual (defArgs st) (defBody st) (defScope st) .none kV doc pm an cdv ct) := ⟨⟨oc, od, kV, doc, pm, an, cdv, ct, osl, rfl, l, c⟩, k⟩
end
section
variable {X : Cx}
end
theorem iteF {A B : Prop} (h : B) : if false = true then A else B := by
  rw [if_neg Bool.false_ne_true]
  exact h
theorem iteT {A B : Prop} (h : A) : if true = true then A else B := by
  rw [if_pos rfl]
  exact h
def Same (H H' : Hp) : Prop := ∀ b o, H b = some o → H' b = some o
theorem Same.refl (H : Hp) : Same H H := fun _ _ h => h
theorem Same.trans {H H1 H2 : Hp} (a : Same H H1) (b : Same H1 H2) : Same H H2 := fun c o h => b c o (a c o h)
theorem Same.free {H H' : Hp} (e : Same H H') {l : Addr} (h : H' l = Option.none) : H l = Option.none := by
  cases q : H l with
  | none => rfl
  | some o =>
    rw [e l o q] at h
    cases h
theorem Same.seq {K : PySem.W.Frag} {H H' : Hp} {a : Addr} {xs : List V} (e : Same H H') (h : SqL K H a xs) : SqL K H' a xs := by
  rcases h with (h | ⟨o, h⟩) | h
  · exact .inl (.inl (e _ _ h))
  · exact .inl (.inr ⟨o, e _ _ h⟩)
  · exact .inr h
end L2
set_option Elab.async false
set_option linter.all false
namespace My
def G (a b : Int) : Int := ((Int.gcd a b : Nat) : Int)
theorem G_end {a : Int} (ha : 0 ≤ a) : G a 0 = a := by
  show ((Int.gcd a 0 : Nat) : Int) = a
  rw [Int.gcd_zero_right]
  omega
theorem G_turn {a b : Int} (ha : 0 ≤ a) (hb : 0 < b) : G b (Int.fmod a b) = G a b := by
  unfold G
  rw [Int.fmod_eq_emod_of_nonneg a (Int.le_of_lt hb)]
  obtain ⟨m, rfl⟩ := Int.eq_ofNat_of_zero_le ha
  obtain ⟨n, rfl⟩ := Int.eq_ofNat_of_zero_le (Int.le_of_lt hb)
  show ((Nat.gcd (n : Int).natAbs ((m : Int) % (n : Int)).natAbs : Nat) : Int) = ((Nat.gcd (m : Int).natAbs (n : Int).natAbs : Nat) : Int)
  have e : ((m : Int) % (n : Int)).natAbs = m % n := by omega
  rw [e, Int.natAbs_natCast, Int.natAbs_natCast, Nat.gcd_comm m n, Nat.gcd_comm n (m % n), ← Nat.gcd_rec]
theorem G_pos {a b : Int} (hb : 0 < b) : 0 < G a b := by
  have : 0 < Int.gcd a b := Int.gcd_pos_of_ne_zero_right a (by omega)
  unfold G
  omega
theorem num_share {t b : Int} (hb : 0 < b) : Int.fdiv t (G t b) = (Rat.divInt t b).num := by
  rw [Int.fdiv_eq_ediv_of_nonneg _ (Int.le_of_lt (G_pos hb)), Rat.num_divInt, Int.sign_eq_one_of_pos hb, Int.one_mul]
  unfold G
  rw [Int.gcd_comm]
theorem den_share {t b : Int} (hb : 0 < b) : Int.fdiv b (G t b) = ((Rat.divInt t b).den : Int) := by
  rw [Int.fdiv_eq_ediv_of_nonneg _ (Int.le_of_lt (G_pos hb)), Rat.den_divInt, if_neg (show ¬ b = 0 by omega), Int.natCast_ediv, Int.natAbs_of_nonneg (Int.le_of_lt hb)]
  unfold G
  rw [Int.gcd_comm]
theorem den_ne (q : Rat) : (q.den : Int) ≠ 0 := by have := q.den_pos; omega
theorem den_pos' (q : Rat) : (0 : Int) < q.den := by have := q.den_pos; omega
theorem q_add (p q : Rat) : Rat.divInt (p.num * q.den + q.num * p.den) (p.den * q.den) = p + q := by
  rw [← Rat.divInt_add_divInt _ _ (den_ne p) (den_ne q), Rat.num_divInt_den, Rat.num_divInt_den]
theorem q_num_pos {q : Rat} (h : 0 < q) : 0 < q.num := by
  have h2 := (Rat.lt_iff 0 q).mp h
  have e1 : (0 : Rat).num = 0 := rfl
  have e2 : (0 : Rat).den = 1 := rfl
  rw [e1, e2, Int.zero_mul] at h2
  omega
theorem q_num_nn {q : Rat} (h : 0 ≤ q) : 0 ≤ q.num := Rat.num_nonneg.mpr h
theorem q_inj {p q : Rat} (h1 : p.num = q.num) (h2 : (p.den : Int) = q.den) : p = q := Rat.ext h1 (by omega)
end My
set_option Elab.async false
set_option linter.all false
namespace My
theorem gcd_sum {n1 d1 n2 d2 : Nat} (h1 : Nat.Coprime n1 d1) (h2 : Nat.Coprime n2 d2) (p1 : 0 < d1) (p2 : 0 < d2) :
    Nat.gcd (n1 * d2 + n2 * d1) (d1 * d2) = Nat.gcd d1 d2 * Nat.gcd (n1 * (d2 / Nat.gcd d1 d2) + n2 * (d1 / Nat.gcd d1 d2)) (Nat.gcd d1 d2) := by
  have g0 : 0 < Nat.gcd d1 d2 := Nat.gcd_pos_of_pos_left _ p1
  generalize hg : Nat.gcd d1 d2 = g at *
  obtain ⟨e1, rfl⟩ : g ∣ d1 := hg ▸ Nat.gcd_dvd_left _ _
  obtain ⟨e2, rfl⟩ : g ∣ d2 := hg ▸ Nat.gcd_dvd_right _ _
  have ce : Nat.Coprime e1 e2 := by
    rw [Nat.gcd_mul_left] at hg
    exact Nat.eq_of_mul_eq_mul_left g0 (by rw [hg, Nat.mul_one])
  rw [Nat.mul_div_cancel_left _ g0, Nat.mul_div_cancel_left _ g0]
  have a1 : Nat.Coprime e1 (n1 * e2 + n2 * e1) := by
    show Nat.gcd e1 (n1 * e2 + n2 * e1) = 1
    rw [Nat.mul_comm n2 e1, Nat.gcd_add_mul_left_right]
    exact Nat.Coprime.mul_right ((h1.coprime_dvd_right ⟨g, Nat.mul_comm _ _⟩).symm) ce
  have a2 : Nat.Coprime e2 (n1 * e2 + n2 * e1) := by
    show Nat.gcd e2 (n1 * e2 + n2 * e1) = 1
    rw [Nat.add_comm, Nat.mul_comm n1 e2, Nat.gcd_add_mul_left_right]
    exact Nat.Coprime.mul_right ((h2.coprime_dvd_right ⟨g, Nat.mul_comm _ _⟩).symm) ce.symm
  rw [show n1 * (g * e2) + n2 * (g * e1) = g * (n1 * e2 + n2 * e1) by grind, show g * e1 * (g * e2) = g * (e1 * (e2 * g)) by grind, Nat.gcd_mul_left, a1.gcd_mul_left_cancel_right, a2.gcd_mul_left_cancel_right]
theorem add_num {p q : Rat} (hp : 0 ≤ p.num) (hq : 0 ≤ q.num) : (p + q).num = (p.num * (q.den / G p.den q.den) + q.num * (p.den / G p.den q.den)) / G (p.num * (q.den / G p.den q.den) + q.num * (p.den / G p.den q.den)) (G p.den q.den) ∧
    ((p + q).den : Int) = p.den / G p.den q.den * (q.den / G (p.num * (q.den / G p.den q.den) + q.num * (p.den / G p.den q.den)) (G p.den q.den)) := by
  obtain ⟨n1, e1⟩ := Int.eq_ofNat_of_zero_le hp
  obtain ⟨n2, e2⟩ := Int.eq_ofNat_of_zero_le hq
  have c1 : Nat.Coprime n1 p.den := by have := p.reduced; rw [e1] at this; exact this
  have c2 : Nat.Coprime n2 q.den := by have := q.reduced; rw [e2] at this; exact this
  have d1 := p.den_pos
  have d2 := q.den_pos
  rw [Rat.num_add, Rat.den_add, e1, e2]
  generalize p.den = b1 at *
  generalize q.den = b2 at *
  have gg := gcd_sum c1 c2 d1 d2
  have g0 : 0 < Nat.gcd b1 b2 := Nat.gcd_pos_of_pos_left _ d1
  have hG : G (b1 : Int) b2 = ((Nat.gcd b1 b2 : Nat) : Int) := rfl
  have hN : ((n1 : Int) * b2 + n2 * b1) = ((n1 * b2 + n2 * b1 : Nat) : Int) := by push_cast; rfl
  have ht : (n1 : Int) * ((b2 : Int) / G b1 b2) + n2 * ((b1 : Int) / G b1 b2) = ((n1 * (b2 / Nat.gcd b1 b2) + n2 * (b1 / Nat.gcd b1 b2) : Nat) : Int) := by rw [hG]; push_cast; rfl
  rw [ht, hG]
  rw [hN, Int.natAbs_natCast, gg]
  generalize hgv : Nat.gcd b1 b2 = g at *
  obtain ⟨e1', rfl⟩ : g ∣ b1 := hgv ▸ Nat.gcd_dvd_left _ _
  obtain ⟨e2', rfl⟩ : g ∣ b2 := hgv ▸ Nat.gcd_dvd_right _ _
  rw [Nat.mul_div_cancel_left _ g0, Nat.mul_div_cancel_left _ g0]
  generalize hl : Nat.gcd (n1 * e2' + n2 * e1') g = l
  have l0 : 0 < l := hl ▸ Nat.gcd_pos_of_pos_right _ g0
  have hGl : G ((n1 * e2' + n2 * e1' : Nat) : Int) (g : Int) = (l : Int) := by rw [← hl]; rfl
  obtain ⟨m, hm⟩ : l ∣ g := hl ▸ Nat.gcd_dvd_right _ _
  rw [hGl]
  constructor
  · rw [show n1 * (g * e2') + n2 * (g * e1') = g * (n1 * e2' + n2 * e1') by grind, ← Int.natCast_ediv, ← Int.natCast_ediv, Nat.mul_div_mul_left _ _ g0]
  · subst hm
    rw [← Int.natCast_ediv, ← Int.natCast_ediv, ← Int.natCast_mul]
    congr 1
    rw [Nat.mul_div_cancel_left _ g0, show l * m * e1' * (l * m * e2') = (l * m * l) * (e1' * (m * e2')) by grind, Nat.mul_div_cancel_left _ (Nat.mul_pos g0 l0), show l * m * e2' = l * (m * e2') by grind, Nat.mul_div_cancel_left _ l0]
end My
set_option Elab.async false
set_option linter.all false
set_option maxRecDepth 100000
set_option maxHeartbeats 4000000
namespace L2
open PySem PySem.Spec PyProof.Rows
section
variable {P : Program} {w : World} {H : Hp} {h : Heap} {a : Addr} {o : HO}
theorem ObjOk.there (x : ObjOk P w H h a o) : ∃ ob, h.get? a = some ob := by
  cases o with
  | lst xs => obtain ⟨_, _, _, _, e⟩ := x; exact ⟨_, e⟩
  | tup xs => obtain ⟨_, _, _, ob, e, _⟩ := x; exact ⟨ob, e⟩
  | dK kvs => obtain ⟨_, _, _, _, o, _, _, e, _⟩ := x; exact ⟨o, e⟩
  | dT kvs => obtain ⟨_, _, _, _, o, _, _, e, _⟩ := x; exact ⟨o, e⟩
  | set S n => obtain ⟨o, _, _, _, e, _⟩ := x; exact ⟨o, e⟩
  | ins C dx fs => obtain ⟨_, _, _, e, _⟩ := x; exact ⟨_, e⟩
  | own y => obtain ⟨u, e⟩ := x; exact ⟨u, e⟩
  | xd fs => obtain ⟨_, ⟨u, _, _, e, _⟩, _⟩ := x; exact ⟨u, e⟩
  | rng lo hi => obtain ⟨_, _, _, e⟩ := x; exact ⟨_, e⟩
  | frz ob u => obtain ⟨e, _⟩ := x; exact ⟨_, e⟩
  | tbl ps =>
    have e : h.get? a = some _ := x
    exact ⟨_, e⟩
  | met f y =>
    have e : h.get? a = some _ := x
    exact ⟨_, e⟩
  | ext φ => obtain ⟨_, ⟨u, e⟩, _⟩ := x; exact ⟨u, e⟩
theorem HOk.sub {B : Heap} (x : HOk P w H h) (k : ∀ b u, H b ≠ none → h.get? b = some u → B.get? b = some u) : HOk P w H B := fun a o e =>
  (x a o e).stay (fun b u hb q => k b u (by
    rcases hb with z | z
    · rw [z, e]; simp
    · rw [z]; simp) q) (fun _ q => q) fun _ _ q => q
theorem HOk.not_at (x : HOk P w H h) (e : h.get? a = none) : H a = none := by
  cases q : H a with
  | none => rfl
  | some u =>
    obtain ⟨ob, z⟩ := (x a u q).there
    rw [e] at z; cases z
end
structure Fly (P : Program) (w : World) (outer : List Env) (H : Hp) (s : Shared) (ea : Addr) (cls : Value) (H' : Hp) (B : Heap) (s' : Shared) : Prop where
  os : s'.os = s.os
  bare : AllBare s'.gens
  fly : ∃ t, Heap.FlyingW B outer ea cls (.ref t) s'.heap
  hok : HOk P w H' B
  un : Un (frs outer) [] H H' s.heap s'.heap
  cov : ∀ b o, s.heap.get? b = some o → H b = none → b ∉ frs outer → B.get? b = some o
  cov2 : ∀ b o, s.heap.get? b = some o → b ∉ frs outer → ∃ o', B.get? b = some o'
def CXo (P : Program) (w : World) : CXT := fun outer H s E e s' => ∃ (ea : Addr) (cls : Value) (H' : Hp) (B : Heap), e = .ref ea ∧ Fly P w outer H s ea cls H' B s' ∧ E cls none H'
section
variable {P : Program} {w : World} {outer : List Env} {H H' : Hp} {s s' : Shared} {ea : Addr} {cls : Value} {B : Heap}
theorem Fly.turn (F : Fly P w outer H s ea cls H' B s') {h2 : Heap} {t : Addr} (f2 : Heap.FlyingW B outer ea cls (.ref t) h2) (k : s'.heap.UpToSlots h2) : Fly P w outer H s ea cls H' B { s' with heap := h2 } := by
  obtain ⟨t0, f⟩ := F.fly
  have frm : ∀ b ∈ frs outer, ∃ o, s'.heap.get? b = some o ∧ ∀ vs, o.data ≠ .fields vs := fun b hb => (f.2.2.1.mem hb).2
  refine ⟨F.os, F.bare, ⟨t, f2⟩, F.hok, ⟨fun b o q n hb hx => f2.1 b o (F.cov b o q n hb), fun b o q n hb hx => ?_, F.un.free, fun b o q hx => ?_, F.un.tups, F.un.frzs, F.un.tbls⟩, F.cov, F.cov2⟩
  · obtain ⟨sl, e1⟩ := F.un.slot b o q n hb hx
    obtain ⟨o', e2, nf⟩ := frm b hb
    rw [e1] at e2; cases e2
    obtain ⟨sl2, e3⟩ := k b _ e1 nf
    exact ⟨sl2, e3⟩
  · by_cases hb : b ∈ frs outer
    · obtain ⟨o', e2, nf⟩ := frm b hb
      obtain ⟨sl2, e3⟩ := k b _ e2 nf
      exact ⟨_, e3⟩
    · obtain ⟨o', e⟩ := F.cov2 b o q hb
      exact ⟨o', f2.1 b o' e⟩
theorem Fly.hok' (F : Fly P w outer H s ea cls H' B s') : HOk P w H' s'.heap := by
  obtain ⟨t0, f⟩ := F.fly
  exact F.hok.kept fun b u q => f.1 b u q
theorem Fly.new (F : Fly P w outer H s ea cls H' B s') : H' ea = none := by
  obtain ⟨t0, f⟩ := F.fly
  exact F.hok.not_at f.2.1
end
structure Own (X : Cx) : Prop where
  stk : X.stack = X.env :: X.outer
  fr : X.env.frame = some X.env.locals
  ex : X.ex = []
section
variable {X : Cx} {pins : List (Addr × Obj)} {σ : St} {H : Hp} {s : Shared}
theorem Inv.offFrame (O : Own X) (I : Inv X pins σ H s) {b : Addr} {o : Obj} (e : X.s₀.heap.get? b = some o) (hb : b ∉ frs X.outer) : b ∉ frs X.stack := fun z => by
  rcases List.mem_cons.mp (I.stkSub b z) with q | q
  · exact absurd (Nat.lt_of_lt_of_le (Heap.lt_size e) I.ok.above) (by rw [q]; exact Nat.lt_irrefl _)
  · exact hb q
theorem Inv.fly (O : Own X) (I : Inv X pins σ H s) {h2 B : Heap} {e t : Addr} {cls : Value} (hB : ∀ b o, s.heap.get? b = some o → b ∉ frs X.stack → B.get? b = some o) (hs : ∀ b o, s.heap.get? b = some o → (∀ vs, o.data ≠ .fields vs) → ∃ sl, h2.get? b = some { o with slots := sl })
    (f : Heap.FlyingW B X.outer e cls (.ref t) h2) : Fly X.prog X.w X.outer X.H₀ X.s₀ e cls H B { s with heap := h2 } := by
  have ox : ∀ b : Addr, b ∉ X.ex := fun b z => by rw [O.ex] at z; cases z
  have frm : ∀ b ∈ frs X.stack, ∃ o, s.heap.get? b = some o ∧ ∀ vs, o.data ≠ .fields vs := fun b hb => (I.stack.mem hb).2
  have sub : ∀ b ∈ frs X.outer, b ∈ frs X.stack := fun b hb => by
    rw [O.stk]
    unfold frs
    rw [List.filterMap_cons, O.fr]
    exact List.mem_cons_of_mem _ hb
  have cov : ∀ b o, X.s₀.heap.get? b = some o → X.H₀ b = none → b ∉ frs X.outer → B.get? b = some o := fun b o q n hb => hB b o (I.base.keep b o q n hb (ox b)) (I.offFrame O q hb)
  have cov2 : ∀ b o, X.s₀.heap.get? b = some o → b ∉ frs X.outer → ∃ o', B.get? b = some o' := fun b o q hb => by
    obtain ⟨o', e1⟩ := I.base.there b o q (ox b)
    exact ⟨o', hB b o' e1 (I.offFrame O q hb)⟩
  refine ⟨I.os, I.bare, ⟨t, f⟩, I.hok.sub fun b u hb q => hB b u q fun z => hb (I.stkFree b z), ⟨fun b o q n hb hx => f.1 b o (cov b o q n hb), fun b o q n hb hx => ?_, fun b o q n hx => I.base.free b o q n (ox b), fun b o q hx => ?_, I.base.tups, I.base.frzs, I.base.tbls⟩, cov, cov2⟩
  · obtain ⟨sl, e1⟩ := I.base.slot b o q n hb (ox b)
    obtain ⟨o', e2, nf⟩ := frm b (sub b hb)
    rw [e1] at e2; cases e2
    obtain ⟨sl2, e3⟩ := hs b _ e1 nf
    exact ⟨sl2, e3⟩
  · by_cases hb : b ∈ frs X.outer
    · obtain ⟨o', e2, nf⟩ := frm b (sub b hb)
      obtain ⟨sl2, e3⟩ := hs b _ e2 nf
      exact ⟨_, e3⟩
    · obtain ⟨o', e⟩ := cov2 b o q hb
      exact ⟨o', f.1 b o' e⟩
theorem Fly.on (O : Own X) (I : Inv X pins σ H s) {H' : Hp} {s' : Shared} {ea t : Addr} {cls : Value} {B h2 : Heap} (F : Fly X.prog X.w X.stack H s ea cls H' B s') (f : Heap.FlyingW B X.outer ea cls (.ref t) h2) (k : s'.heap.UpToSlots h2) :
    Fly X.prog X.w X.outer X.H₀ X.s₀ ea cls H' B { s' with heap := h2 } := by
  have ox : ∀ b : Addr, b ∉ X.ex := fun b z => by rw [O.ex] at z; cases z
  obtain ⟨t0, f0⟩ := F.fly
  have frm : ∀ b ∈ frs X.stack, ∃ o, s'.heap.get? b = some o ∧ ∀ vs, o.data ≠ .fields vs := fun b hb => (f0.2.2.1.mem hb).2
  have sub : ∀ b ∈ frs X.outer, b ∈ frs X.stack := fun b hb => by
    rw [O.stk]
    unfold frs
    rw [List.filterMap_cons, O.fr]
    exact List.mem_cons_of_mem _ hb
  have cov : ∀ b o, X.s₀.heap.get? b = some o → X.H₀ b = none → b ∉ frs X.outer → B.get? b = some o := fun b o q n hb =>
    F.cov b o (I.base.keep b o q n hb (ox b)) (I.base.free b o q n (ox b)) (I.offFrame O q hb)
  have cov2 : ∀ b o, X.s₀.heap.get? b = some o → b ∉ frs X.outer → ∃ o', B.get? b = some o' := fun b o q hb => by
    obtain ⟨o', e1⟩ := I.base.there b o q (ox b)
    exact F.cov2 b o' e1 (I.offFrame O q hb)
  refine ⟨F.os.trans I.os, F.bare, ⟨t, f⟩, F.hok, ⟨fun b o q n hb hx => f.1 b o (cov b o q n hb), fun b o q n hb hx => ?_, fun b o q n hx => ?_, fun b o q hx => ?_, fun b xs e => F.un.tups b xs (I.base.tups b xs e),
    fun b o xs e => F.un.frzs b o xs (I.base.frzs b o xs e), fun b ps e => ?_⟩, cov, cov2⟩
  · obtain ⟨sl, e1⟩ := I.base.slot b o q n hb (ox b)
    obtain ⟨sl1, e2⟩ := F.un.slot b _ e1 (I.stkFree b (sub b hb)) (sub b hb) (by simp)
    obtain ⟨o', e3, nf⟩ := frm b (sub b hb)
    rw [e2] at e3; cases e3
    obtain ⟨sl2, e4⟩ := k b _ e2 nf
    exact ⟨sl2, e4⟩
  · obtain ⟨o', e1⟩ := I.base.there b o q (ox b)
    exact F.un.free b o' e1 (I.base.free b o q n (ox b)) (by simp)
  · by_cases hb : b ∈ frs X.outer
    · obtain ⟨o', e2, nf⟩ := frm b (sub b hb)
      obtain ⟨sl2, e3⟩ := k b _ e2 nf
      exact ⟨_, e3⟩
    · obtain ⟨o', e⟩ := cov2 b o q hb
      exact ⟨o', f.1 b o' e⟩
  · obtain ⟨m1, e1⟩ := I.base.tbls b ps e
    obtain ⟨m2, e2⟩ := F.un.tbls b _ e1
    exact ⟨m1 ++ m2, by rw [e2, Array.append_assoc]⟩
end
def Flies (X : Cx) (E : XK) : Prop := ∀ (pins : List (Addr × Obj)) (σ : St) (H : Hp) (s : Shared) (h' : Heap) (e : Addr) (cls : Value) (vs : List Value), Inv X pins σ H s → Heap.MadeExcOf s.heap h' e cls vs → E cls none H → X.xe (.ref e) { s with heap := h' }
section
variable {P : Program} {w : World} {K : PySem.W.Frag} {mg : Str → Option Value} {base : Heap} {N : List Str} {qual : Str} {scope : Scope} {f : Addr} {cd : Value} {A : Around} {outer : List Env} {s : Shared} {H : Hp} {E : XK} {CX : CXT}
theorem own_cx : Own (cxOf CX P w K mg base N qual scope f cd A outer s H E) := ⟨rfl, rfl, rfl⟩
theorem flies_o : Flies (cxOf (CXo P w) P w K mg base N qual scope f cd A outer s H E) E := by
  intro pins σ H1 s1 h' e cls vs I hx hE
  have O : Own (cxOf (CXo P w) P w K mg base N qual scope f cd A outer s H E) := own_cx
  have hin : ∀ env ∈ (cxOf (CXo P w) P w K mg base N qual scope f cd A outer s H E).stack, ∀ b, env.frame = some b → b ∈ frs (cxOf (CXo P w) P w K mg base N qual scope f cd A outer s H E).stack := fun env he b hb => List.mem_filterMap.mpr ⟨env, he, hb⟩
  refine wpAny_leaves_madeW (base := PySem.W.hideAll s1.heap (frs (cxOf (CXo P w) P w K mg base N qual scope f cd A outer s H E).stack)) (h := s1.heap) I.ok.frames rfl (fun b o q => PySem.W.of_hideAll _ q) (PySem.W.funFrames_hide I.stack hin) hx fun h2 t x1 x2 x3 x4 => ?_
  refine ⟨e, cls, H1, _, rfl, I.fly O (fun b o q nm => PySem.W.hideAll_get _ q nm) (fun b o q nf => x4 b o (hx.keeps b o q) nf) x1, hE⟩
theorem pass_o {E' : XK} (hE : ∀ c d H', E' c d H' → E c d H') : Passes (CXo P w) (cxOf (CXo P w) P w K mg base N qual scope f cd A outer s H E) E' := by
  intro pins σ H1 s1 e s' I hc
  have O : Own (cxOf (CXo P w) P w K mg base N qual scope f cd A outer s H E) := own_cx
  obtain ⟨ea, cls, H', B, rfl, F, q⟩ := hc
  obtain ⟨t, fl⟩ := F.fly
  refine wpAny_leaves_onW I.ok.frames rfl fl fun h2 f2 k => ?_
  exact ⟨ea, cls, H', B, rfl, Fly.on O I F f2 k, hE _ _ _ q⟩
end
end L2
set_option Elab.async false
set_option linter.all false
set_option maxRecDepth 100000
set_option maxHeartbeats 4000000
namespace L2
open PySem PySem.Spec PyProof.Rows
structure ExCls (K : PySem.W.Frag) (C : Addr) : Prop where
  ok : PySem.W.excIn K C [.type "ValueError", .type "Exception", .type "BaseException", .type "object"] "ValueError.__new__" = true
theorem ExCls.obj {K : PySem.W.Frag} {C : Addr} (x : ExCls K C) {h : Heap} (X : K.In h) (mg : Str → Option Value) (hm : mg "C" = some (.ref C)) :
    OwnCls "C" C [.type "ValueError", .type "Exception", .type "BaseException", .type "object"] "ValueError.__new__" mg h := by
  refine ⟨hm, ?_⟩
  have q := x.ok
  unfold PySem.W.excIn at q
  split at q
  case h_2 => cases q
  case h_1 dd cd sl ho =>
    split at q
    case h_2 => cases q
    case h_1 C' bm k0 k1 k2 k3 n k5 hmr hs =>
      simp only [Bool.and_eq_true, beq_iff_eq, Bool.not_eq_true'] at q
      obtain ⟨⟨⟨⟨⟨q1, q2⟩, q3⟩, q4⟩, q5⟩, q6⟩ := q
      subst q1 q2
      obtain ⟨nm, bs, mro, ns, qn, hd, sn, sub, ab, col, del⟩ := cd
      dsimp only at hmr q3 q5 q6
      subst hmr q3
      have es : sl = #[k0, k1, k2, k3, some (.builtin "ValueError.__new__"), k5] := Array.toList_inj.mp (by rw [hs])
      subst es
      exact ⟨bm, ns, nm, qn, bs, hd, sn, sub, ab, col, dd, k0, k1, k2, k3, k5, _, X _ _ ho, .of_isNs (PySem.W.isNs_of_in X q5), PySem.W.nsMap_none_of_in X q5 q6, PySem.W.tail_of_in X q4⟩
def tRaise (C : Addr) (t : TA) (E : XK) : TS := fun _ σ H => t σ H fun vs H1 => vs.length ≤ sizeLine ∧ E (.ref C) none H1
section
variable {X : Cx}
theorem ps_raise {x : Str} {C : Addr} {np cpos pos : Pos} {e₀ : Expr} {rest : List Expr} {t : TA} {E : XK} (hc : X.calm = true) (c : ExCls X.K C) (hg : Gl X x) (hm : X.mg x = some (.ref C)) (ha : PA X (e₀ :: rest) t) (hE : Flies X E)
    (he : starEach (e₀ :: rest) X.env = (false, eval e₀ X.env) :: starEach rest X.env := by rfl) (hplain : (backTo cpos (starEach rest X.env)).any (·.1) = false := by rfl)
    (hd : (x == ("__debug__" : Str)) = false := by decide) :
    PS X (.Raise (some (.Call (.Name x np) (e₀ :: rest) [] cpos)) none pos) (tRaise C t E) := by
  intro pins s σ H D I h
  obtain ⟨tl, N, nm, q, bs, hdct, sn, sub, ab, col, dd, k0, k1, k2, k3, k5, mN, hC, hN, hni, T⟩ := (c.obj I.mod.kin (fun _ => some (.ref C)) rfl).obj
  refine wpAny_Raise_call_subT (C := C) (nm := nm) (q := q) (N := N) (bs := bs) (bm := tl) (hdct := hdct) (sn := sn) (sub := sub) (ab := ab) (col := col) (dd := dd) (k0 := k0) (k1 := k1) (k2 := k2) (k3 := k3) (k5 := k5)
    PySem.F.excBase_ValueError (mN := mN) (T.hasType PySem.F.excBase_ValueError.hasBase) (I.ok.hd hc) (by rw [he]; show (false || (backTo cpos (starEach rest X.env)).any (·.1)) = false; rw [hplain]; rfl) hni (ld_glob I hg hm ⟨rfl, ?_⟩ hd)
  have h' := ha cpos pins s σ H _ I h
  rw [he] at h' ⊢
  refine Calls.evalArgs_plain (wpAny_mono h' (fun vs s2 ⟨ws, H2, I2, r, q⟩ => ?_) fun _ _ y => y)
  refine ⟨rfl, by rw [← r.length]; exact q.1, I2.bk _ _ hC, hN.keeps I2.bk, T.keeps I2.bk, fun h' e hx => ?_⟩
  exact hE pins σ H2 s2 h' e _ vs I2 hx q.2
end
abbrev TX := St → Hp → VK → XK → Prop
def PX (X : Cx) (e : Expr) (t : TX) : Prop := ∀ (pins : List (Addr × Obj)) (s : Shared) (σ : St) (H : Hp) (Q : VK) (E : XK), Inv X pins σ H s → t σ H Q E →
  wpAny (model X.prog X.w) X.A (eval e X.env) (EP X pins σ Q) (fun ev s' => ∃ H1 s1, Inv X pins σ H1 s1 ∧ CXo X.prog X.w X.stack H1 s1 E ev s') s
def tCallX (sp : Sp) (t : TA) : TX := fun σ H Q E => t σ H fun vs H1 => sp vs H1 Q E
section
variable {X : Cx}
theorem px_call {k : Nat} {f : Addr} {fd : FuncData} {ps : List Str} {sp : Sp} {x : Str} {p pos : Pos} {e : Expr} {es : List Expr} {t : TA} (F : FnOk X.prog X.w X.K X.mg X.base (CXo X.prog X.w) k f fd ps sp) (hr : Room k X.A) (hg : Gl X x) (hm : X.mg x = some (.ref f)) (hk : PySem.W.keepIn X.K (.ref f) = true)
    (hb : Binds X.K fd ps []) (ha : PA X.nox (e :: es) t) (hdb : (x == ("__debug__" : Str)) = false := by decide) (he : starEach (e :: es) X.env = (false, eval e X.env) :: starEach es X.env := by rfl) (hpl : (backTo pos (starEach es X.env)).any (·.1) = false := by rfl) :
    PX X (.Call (.Name x p) (e :: es) [] pos) (tCallX sp t) := by
  intro pins s σ H Q E I h
  refine wpAny_Call_Name_kw (ld_glob I hg hm ?_ hdb)
  refine PySem.W.callWith_K (h₀ := X.base) I.ok.mod.kin hk (wpAny_mono (ha pos pins s σ H _ (I.wish _) h) (fun us s1 ⟨vs, H1, I1', r, q⟩ => ?_) fun _ _ z => False.elim z) he hpl
  have I1 := I1'.unwish
  refine ⟨I1.kIn, ?_⟩
  have hl : us.length = ps.length := by rw [← r.length]; exact F.len _ _ _ _ q
  refine wpAny_call (codeAny_mono (F.run X.A X.stack s1 H1 ⟨us, []⟩ us vs Q E hr I1.env0 (by have z := hb s1 us I1.kIn (by rw [List.append_nil]; exact hl); rwa [List.append_nil] at z) r q) fun r s' hq => ?_)
  cases r with
  | error ev => exact ⟨H1, s1, I1, hq⟩
  | ok fl =>
    cases fl with
    | ret u => exact I1.after hq
    | next => exact False.elim hq
    | brk => exact False.elim hq
    | cont => exact False.elim hq
end
def Cx.marked (X : Cx) (e : Addr) : Cx := { X with A := X.A.mark (some (.ref e)), calm := false, xe := fun _ _ => False }
def xobj (a : Addr) (cls : Value) : HO := .ext fun h => ∃ o vs, h.get? a = some o ∧ o.cls = cls ∧ o.data = .fields vs
theorem xobj_ok {P : Program} {w : World} {H : Hp} {h : Heap} {a : Addr} {cls : Value} (x : ∃ o vs, h.get? a = some o ∧ o.cls = cls ∧ o.data = .fields vs) : ObjOk P w H h a (xobj a cls) := by
  refine ⟨x, ?_, fun h1 h2 ⟨o, vs, e, c, d⟩ k => ⟨o, vs, k o e, c, d⟩⟩
  obtain ⟨o, _, e, _⟩ := x
  exact ⟨o, e⟩
section
variable {X : Cx} {pins : List (Addr × Obj)} {σ : St} {H : Hp} {s : Shared}
theorem Inv.mark (I : Inv X pins σ H s) (e : Addr) : Inv (X.marked e) pins σ H s :=
  ⟨⟨I.ok.mod, I.ok.kind, I.ok.glob, I.ok.blt, I.ok.above, I.ok.inj, I.ok.has, I.ok.cab, (fun z => by cases z), I.ok.frames, I.ok.stk, I.ok.exf, I.ok.bs, I.ok.bsz, I.ok.noex, I.ok.exfs, I.ok.funs, I.ok.frf⟩, I.os, I.bare, I.base, I.loc, I.cell, I.free, I.freeC, I.pin, I.hok, I.len⟩
theorem Inv.unmark {e : Addr} (I : Inv (X.marked e) pins σ H s) (hd : X.calm = true → X.A.handled = none) : Inv X pins σ H s :=
  ⟨⟨I.ok.mod, I.ok.kind, I.ok.glob, I.ok.blt, I.ok.above, I.ok.inj, I.ok.has, I.ok.cab, hd, I.ok.frames, I.ok.stk, I.ok.exf, I.ok.bs, I.ok.bsz, I.ok.noex, I.ok.exfs, I.ok.funs, I.ok.frf⟩, I.os, I.bare, I.base, I.loc, I.cell, I.free, I.freeC, I.pin, I.hok, I.len⟩
theorem Inv.gone {h' : Heap} {t' : Nat} {m' : Str → Option Value} (I : Inv X pins σ H s) (hn : h'.Ns X.env.locals m') (hs : Heap.SameBut X.env.locals s.heap h') : Inv X pins (List.replicate X.N.length none) H { s with heap := h', toks := t' } := by
  have cne := I.cne
  have neL : ∀ b o, X.s₀.heap.get? b = some o → b ≠ X.env.locals := fun b o e => Nat.ne_of_lt (Nat.lt_of_lt_of_le (Heap.lt_size e) I.ok.above)
  have kp : ∀ b o, b ≠ X.env.locals → s.heap.get? b = some o → h'.get? b = some o := fun b o hb e => (hs.2 b hb).trans e
  refine ⟨I.ok, I.os, I.bare, ⟨fun b o e n hb hx => kp b o (neL b o e) (I.base.keep b o e n hb hx), fun b o e n hb hx => ?_, I.base.free, fun b o e hx => ?_, I.base.tups, I.base.frzs, I.base.tbls⟩, ⟨m', hn, fun j y v e1 e2 e3 => ?_⟩, fun y c e => ?_, I.free, I.freeC, fun p hp => ?_, fun b u e => ?_, by simp⟩
  · obtain ⟨sl, e1⟩ := I.base.slot b o e n hb hx
    exact ⟨sl, kp b _ (neL b o e) e1⟩
  · obtain ⟨o', e1⟩ := I.base.there b o e hx
    exact ⟨o', kp b _ (neL b o e) e1⟩
  · rw [List.getElem?_replicate] at e2
    split at e2 <;> cases e2
  · obtain ⟨v, z⟩ := I.cell y c e
    exact ⟨v, z.sameBut hs (cne y c e)⟩
  · obtain ⟨e, n, ne, nf, d⟩ := I.pin p hp
    exact ⟨kp _ _ ne e, n, ne, nf, d⟩
  · refine (I.hok b u e).stay (fun c v hc q => kp c v ?_ q) (fun _ q => q) fun _ _ q => q
    rintro rfl
    rcases hc with z | z
    · rw [← z, I.free] at e; cases e
    · rw [I.free] at z; cases z
end
end L2
set_option Elab.async false
set_option linter.all false
set_option maxRecDepth 100000
set_option maxHeartbeats 4000000
namespace L2
open PySem PySem.Spec PyProof.Rows
section
variable {X : Cx} {pins : List (Addr × Obj)} {σ : St} {H : Hp} {s : Shared}
theorem Inv.landed (I : Inv X pins σ H s) {H' : Hp} {s' : Shared} {ea : Addr} {cls : Value} {B : Heap} (F : Fly X.prog X.w X.stack H s ea cls H' B s') : Inv X pins σ (upd H' ea (xobj ea cls)) s' := by
  obtain ⟨t, f⟩ := F.fly
  have hn := F.new
  have hob : ∃ o vs, s'.heap.get? ea = some o ∧ o.cls = cls ∧ o.data = .fields vs := by
    obtain ⟨oe, vs, e, c, d, _⟩ := f.first
    exact ⟨oe, vs, e, c, d⟩
  have eB : ∀ b o, B.get? b = some o → b ≠ ea := fun b o e z => by rw [z, f.2.1] at e; cases e
  refine I.call' (ch := []) F.os ⟨F.un.keep, F.un.slot, fun b o q n hx => ?_, F.un.there, fun b xs q => ?_, fun b o u q => ?_, fun b ps q => ?_⟩ ?_ F.bare (fun b z => absurd z (by simp))
  · have hb : b ≠ ea := by
      by_cases hf : b ∈ frs X.stack
      · intro z
        obtain ⟨o', e2, nf⟩ := (f.2.2.1.mem hf).2
        obtain ⟨ob, vs, e3, _, d⟩ := hob
        rw [z] at e2
        rw [e2] at e3
        cases e3
        exact nf vs d
      · exact eB b o (F.cov b o q n hf)
    rw [upd_ne hb]
    exact F.un.free b o q n hx
  · rw [upd_ne (ne_of_none (F.un.tups b xs q) hn)]
    exact F.un.tups b xs q
  · rw [upd_ne (ne_of_none (F.un.frzs b o u q) hn)]
    exact F.un.frzs b o u q
  · obtain ⟨m, e⟩ := F.un.tbls b ps q
    exact ⟨m, by rw [upd_ne (ne_of_none e hn)]; exact e⟩
  · intro b u e
    by_cases hb : b = ea
    · subst hb
      rw [upd_same] at e
      cases e
      exact xobj_ok hob
    · rw [upd_ne hb] at e
      refine (F.hok' b u e).stay (fun _ _ _ q => q) (fun c q => ?_) fun c xs q => ?_
      · rw [upd_ne (ne_of_none q hn)]; exact q
      · rw [upd_ne (ne_of_none q hn)]; exact q
end
def tTry (K : PySem.W.Frag) (i : Nat) (C : Addr) (t : TX) (th : Addr → TS) : TS := fun D σ H => t σ H (fun _ H1 => D.nx σ H1) fun cls _ H1 =>
  PySem.W.exmOne K cls (.ref C) = some true ∧ ∀ ea, H1 ea = none → th ea { nx := fun _ _ => False, rt := D.rt } (σ.set i (some (.ref ea))) (upd H1 ea (xobj ea cls))
section
variable {X : Cx}
theorem ps_try {i : Nat} {n c : Str} {C : Addr} {e : Expr} {b₀ : Stmt} {suite : List Stmt} {t : TX} {th : Addr → TS} {np epos hpos pos : Pos} (O : Own X) (hc : X.calm = true) (he : PX X e t) (hg : Gl X c) (hm : X.mg c = some (.ref C)) (hN : X.N.Nodup) (hi : X.N[i]? = some n)
    (hl : X.env.kindOf n = some .local) (hb : ∀ ea, PSs (X.marked ea) (b₀ :: suite) (th ea)) (hs : swapsWith e none epos.line X.env = pure false := by rfl) (hd : (c == ("__debug__" : Str)) = false := by decide) :
    PS X (.Try [.Expr e epos] [.ExceptHandler (some (.Name c np)) (some n) (b₀ :: suite) hpos] [] [] pos) (tTry X.K i C t th) := by
  intro pins s σ H D I h
  have hp : (X.env.scope.kind == .class || (X.env.scope.kind == .module && X.env.locals != X.env.globals)) = false := by rw [I.ok.kind]; rfl
  refine wpAny_Try_except (wpAny_execs_cons ?_)
  refine wpAny_Expr_any (wpAny_mono (he pins s σ H _ _ I h) (fun v s1 ⟨x, H1, I1, r1, q1⟩ => wpAny_execs_nil (wpAny_execs_nil ⟨σ, H1, I1, q1⟩)) fun ev s1 q => ?_) I.quiet hs
  obtain ⟨H1, s0, I0, ea, cls, H', B, rfl, F, hx, q⟩ := q
  obtain ⟨t1, f1⟩ := F.fly
  refine wpAny_looks_onW (I0.ok.frames.trans (congrArg some O.stk)) O.fr (by rw [← O.stk]; exact f1) fun h2 held2 k2 => ?_
  refine wpAny_landsW held2 fun h3 fl3 k3 => ?_
  rw [← O.stk] at fl3
  have F3 := F.turn fl3 (k2.trans k3)
  have I3 := I0.landed F3
  refine wpAny_handleBy_cons (codeAny_handlers_test (ld_glob (X := X.marked ea) (I3.mark ea) hg hm ?_ hd)) (by intro z; cases z)
  obtain ⟨ob, hob, hcl⟩ := fl3.there
  refine (PySem.W.exm_one (M := model X.prog X.w) I3.kIn (by subst hcl; exact (PySem.W.Looks.ld hob).andThen .now) hx).here ?_
  refine codeAny_handlers_suite_as ?_
  refine lands_againW fl3 fun h4 fl4 k4 => ?_
  have F4 := F3.turn fl4 k4
  have I4 := (I0.landed F4).mark ea
  refine store_ok (X := X.marked ea) (v := .ref ea) I4 hN hi (Or.inl hl) rfl (fun s5 I5 => ?_) (.inr hl)
  refine wpAny_mono (hb ea pins s5 _ _ _ I5 (q ea F4.new)) (fun fl s6 q6 => ?_) fun _ _ z => False.elim z
  cases fl with
  | next => obtain ⟨σ6, H6, I6, q6⟩ := q6; exact False.elim q6
  | ret u =>
    obtain ⟨v, σ6, H6, I6, r, q6⟩ := q6
    have J := I6.unmark (I.ok.hd)
    obtain ⟨m, hn, _⟩ := id J.loc
    exact wpAny_nameGoes hl hn hp fun h7 m7 hn7 hs7 => ⟨v, _, _, J.gone hn7 hs7, r, q6⟩
  | brk => obtain ⟨σ6, H6, I6, q6⟩ := q6; exact False.elim q6
  | cont => obtain ⟨σ6, H6, I6, q6⟩ := q6; exact False.elim q6
end
end L2
set_option Elab.async false
set_option linter.all false
set_option maxRecDepth 100000
set_option maxHeartbeats 4000000
namespace L2
open PySem PySem.Spec PySem.Calls PyProof.Rows PySem.W PySem.Builtin PySem.Builtin.ObjectAttr PySem.Builtin.Getset_descriptor
structure XcK (K : PySem.W.Frag) (C : Addr) : Prop where
  ga : PySem.W.findIn K (.ref C) "__getattribute__" = some (some (.builtin "BaseException.__getattribute__"))
  gt : PySem.W.findIn K (.ref C) "__getattr__" = some none
  ca : PySem.W.findIn K (.ref C) "__class__" = some (some (.builtin "object.__class__"))
  gs : PySem.W.specialIn K (.builtin "object.__class__") "__get__" = some (some (.builtin "getset_descriptor.__get__"))
  tk : PySem.W.takesIn K (.builtin "object.__class__") = some true
  mo : PySem.W.mroIn K C (.type "object") = some true
  mb : PySem.W.mroIn K C (.type "BaseException") = some true
  cl : ∃ o, K.lookup C = some o ∧ ∃ cd, o.data = .cls cd
section
variable {prog : Program} {w : World} {A : Around} {E : Value → Shared → Prop} {K : PySem.W.Frag} {x C : Addr} {h : Heap} {g : Array GenState} {d : Drawn} {t : Nat} {os : OsState}
theorem xc_find {M : Model} (X : K.In h) (k : XcK K C) : PySem.W.Looks M h (Builtin.ObjectAttr.find (.ref x) (.ref C) "__class__") (.bind (.builtin "getset_descriptor.__get__") (.builtin "object.__class__")) := by
  have L1 := PySem.W.looks_findIn (M := M) X k.ca
  have L2 := PySem.W.looks_specialIn (M := M) X k.gs
  have L3 := PySem.W.looks_takesIn (M := M) X k.tk
  have L4 : Looks M h (dataDescriptor? (some (.builtin "object.__class__")) (some (.builtin "getset_descriptor.__get__"))) (some (.builtin "getset_descriptor.__get__", .builtin "object.__class__")) := L3.andThen .now
  exact L1.andThen (L2.andThen (L4.andThen (Looks.tag .now)))
theorem xc_get {R : Result → Shared → Prop} {tp : Value} (X : K.In h) (L0 : ∀ M : Model, PySem.W.Looks M h (typeOf (.ref x)) (.ref C)) (k : XcK K C) (q : R (.ok (.ret (.ref C))) ⟨h, g, d, t, os⟩) :
    codeAny (model prog w) A (.call (.builtin "getset_descriptor.__get__") ⟨[.builtin "object.__class__", .ref x, tp], []⟩) R ⟨h, g, d, t, os⟩ := by
  have T0 := L0 (model prog w)
  have T1 := PySem.W.looks_mroIn (M := model prog w) X k.mo
  refine codeAny_call_builtin PySem.W.KF.slot_gs.plain PySem.W.KF.entry_gs ?_
  refine PySem.W.KF.slot_gs.check _ _ _ _ _ _ _ _ PySem.W.KF.type_class (PySem.W.KF.args_gs _ _ _) ?_
  unfold «getset_descriptor.__get__» descrGet
  rw [dga_obj]
  refine wpAny_bind (wpAny_pure ?_)
  unfold descrGetter descrCheckInstance
  unfold descrNameAndClass isInstance
  simp only [KF.owner_class]
  repeat lk
  refine ⟨Code.quiet_builtin _ (by decide +kernel), ?_⟩
  refine codeAny_builtin KF.entry_class ?_
  unfold «object.__class__» shownTypeOf
  repeat lk
  exact q
theorem xc_class {Q : Option Value → Shared → Prop} (X : K.In h) (L0 : ∀ M : Model, Looks M h (typeOf (.ref x)) (.ref C)) (k : XcK K C) (q : Q (some (.ref C)) ⟨h, g, d, t + 1, os⟩) :
    wpAny (model prog w) A (getAttr? (.ref x) "__class__") Q E ⟨h, g, d, t, os⟩ := by
  have T0 := L0 (model prog w)
  have T1 := looks_findIn (M := model prog w) X k.ga
  have T2 := looks_findIn (M := model prog w) X k.gt
  have T3 := xc_find (x := x) (M := model prog w) X k
  have T4 := looks_mroIn (M := model prog w) X k.mb
  have f3 := F.attr_ValueError.ga.bind (.ref x)
  unfold getAttr? getAttrBy? getAttrBy
  refine wpAny_bind (wpAny_mkText (wpAny_bind (wpAny_attempt (wpAny_holding (wpAny_bind (T0.at (wpAny_bind (T1.at ?_))))))))
  show wpAny _ _ (getAttrByItsOwn _ _ _ _ _ _) _ _ _
  unfold getAttrByItsOwn hookBefore
  refine wpAny_bind (T2.at ?_)
  refine wpAny_bind (wpAny_attempt (wpAny_holding ?_))
  show wpAny _ _ (boundAndCalled _ _ _) _ _ _
  unfold boundAndCalled
  refine wpAny_bind (wpAny_of_eq f3 ?_)
  refine wpAny_call (codeAny_call_builtin F.attr_ValueError.ga.plain F.entry_bexc_ga ?_)
  have hk : builtinKind "BaseException.__getattribute__" = some .slot := by decide +kernel
  have hsp : splitId "BaseException.__getattribute__" = some ("BaseException", "__getattribute__") := by decide +kernel
  have ha := F.args_bexc_ga (.ref x) (.str "__class__" t)
  simp only [checkBuiltinCall, hk, hsp]
  refine wpAny_bind ?_
  unfold isInstance
  repeat (any_goals (first | assumption | lk | wp_step))
  refine wpAny_run (xc_get X L0 k ?_)
  repeat (any_goals (first | assumption | lk | wp_step))
end
end L2
set_option Elab.async false
set_option linter.all false
set_option maxRecDepth 100000
set_option maxHeartbeats 4000000
namespace L2
open PySem PySem.Spec PySem.Calls PyProof.Rows PySem.W
theorem kitx_xc {K : Frag} {x C : Addr} (k : XcK K C) : KitX K (.ref x) (.ref C) (fun h => ∃ o vs, h.get? x = some o ∧ o.cls = .ref C ∧ o.data = .fields vs) where
  ty := fun M h _ ⟨o, _, e, c, _⟩ => c ▸ (Looks.ld e).andThen .now
  it := fun M h X _ => by
    obtain ⟨o, ho, cd, hd⟩ := k.cl
    obtain ⟨oc, od, dt, sl⟩ := o
    dsimp only at hd
    subst hd
    intro A' Q' E' s' k q
    unfold isType loadHead
    exact wpAny_bind (wpAny_loadPart (k _ _ (X _ _ ho)) (wpAny_pure q))
  ne := fun h tp dd its n sl X htp => by
    obtain ⟨o, ho, cd, hd⟩ := k.cl
    refine Bool.eq_false_iff.mpr fun q => ?_
    have e : C = tp := Value.ref.inj (beq_iff_eq.mp q)
    subst e
    have z := (X _ _ ho).symm.trans htp
    cases z
    cases hd
  ca := fun {prog w A E Q s} X p q => by
    obtain ⟨h, g, d, t, os⟩ := s
    obtain ⟨o, vs, e, c, _⟩ := p
    exact xc_class X (fun M => c ▸ (Looks.ld e).andThen .now) k q
def cV : V → Value
  | .ref a => .ref a
  | .ty n => .type n
  | _ => .none
inductive IsIn (K : Frag) (H : Hp) : V → V → Bool → Prop where
  | val {x c : V} {t : Value} {b : Bool} (ty : TyOf K H x t) (e : kitOne K t (cV c) = some b) (hc : cV c ≠ .none) : IsIn K H x c b
  | exc {a C : Addr} {c : V} {b : Bool} (ex : H a = some (xobj a (.ref C))) (k : XcK K C) (e : kitOne K (.ref C) (cV c) = some b) (hc : cV c ≠ .none) : IsIn K H (.ref a) c b
theorem rel_cV {c : V} {u : Value} (r : RelV c u) (h : cV c ≠ .none) : u = cV c := by
  cases c <;> first | exact r | exact absurd rfl h
section
variable {X : Cx}
theorem call_isin : CallR X (.builtin "isinstance") (fun xs H Q => ∃ x c b, xs = [x, c] ∧ IsIn X.K H x c b ∧ Q (.bl b) H) := by
  intro pins s σ H xs us Q I r h
  obtain ⟨x, c, b, rfl, hi, q⟩ := h
  obtain ⟨u, v, rfl, r1, r2⟩ := vals2 r
  cases hi with
  | val ty e hc =>
    rw [rel_cV r2 hc]
    exact isinst_ok I r1 ty e fun tk => ⟨.bl b, H, I.tok _, rfl, q⟩
  | @exc a C _ _ ex k e hc =>
    rw [rel_cV r2 hc]
    cases (show u = Value.ref a from r1)
    obtain ⟨p, _⟩ := (show ObjOk X.prog X.w H s.heap a (xobj a (.ref C)) from I.hok a _ ex)
    exact kia_one (kitx_xc k) I.kIn p e (fun z => nomatch z) fun tk => ⟨.bl b, H, I.tok _, rfl, q⟩
theorem op_mulI : OpR X (binaryOp .Mult) (rI IntMulOk fun i j => .int (i * j)) := opI fun _ _ _ _ _ _ _ hc q => mul_int q hc
end
structure Pyl (X : Cx) : Prop where
  tree : X.prog.given.tree = none
  fr : ∃ env l, X.stack = env :: l ∧ env.scope.isGenerator = false ∧ env.scope.isCoroutine = false ∧ env.builtins = builtinsNs ∧ env.globals = mainGlobals
  dp : X.A.depth + Builtin.pylongFrames < recursionLimit
theorem Pyl.room {X : Cx} (p : Pyl X) {pins : List (Addr × Obj)} {σ : St} {H : Hp} {s : Shared} (I : Inv X pins σ H s) : PylongRoom (model X.prog X.w) X.A s := by
  obtain ⟨env, l, h1, h2, h3, h4, h5⟩ := p.fr
  exact PylongRoom.of I.nolimit p.dp (SeerAt.of (I.ok.mod.seer.keeps I.bk) p.tree (I.ok.frames.trans (congrArg some h1)) h2 h3 h4 h5)
section
variable {X : Cx}
theorem op_fdivP (p : Pyl X) : OpR X (binaryOp .FloorDiv) (rI (fun _ j => j ≠ 0) fun i j => .int (i.fdiv j)) := by
  intro pins s σ H x y v u Q I rx ry h
  obtain ⟨i, j, rfl, rfl, hc, q⟩ := h
  obtain ⟨t, rfl⟩ := rx
  obtain ⟨t', rfl⟩ := ry
  exact floordiv_int hc ⟨.int (i.fdiv j), H, I.tok _, ⟨_, rfl⟩, q⟩ (Or.inr (p.room I))
end
end L2
set_option Elab.async false
set_option linter.all false
set_option maxRecDepth 100000
set_option maxHeartbeats 4000000
namespace L2
open PySem PySem.Spec PySem.Calls PyProof.Rows
def DefK (K : PySem.W.Frag) (mg : Str → Option Value) (x : Str) (st : Stmt) (ps : List Str) : Prop := ∃ f fd, Fun K x x st f fd ∧ mg x = some (.ref f) ∧ Binds K fd ps []
def OkF (P : Program) (w : World) (K : PySem.W.Frag) (mg : Str → Option Value) (base : Heap) (CX : CXT) (k : Nat) (x : Str) (ps : List Str) (sp : Sp) : Prop :=
  ∃ f fd, FnOk P w K mg base CX k f fd ps sp ∧ mg x = some (.ref f) ∧ PySem.W.keepIn K (.ref f) = true ∧ Binds K fd ps []
theorem def_mk {K : PySem.W.Frag} {h : Heap} {mg : Str → Option Value} (X : K.In h) (G : h.Ns mainGlobals mg) {x : Str} {st : Stmt} (ps : List Str) {f : Addr} {oc : Value} {od an : Option Addr} {osl : Array (Option Value)} {kV doc pm cdv ct : Value}
    (a : PySem.W.nsIn K mainGlobals x = some (some (.ref f))) (l : K.lookup f = some ⟨oc, od, .func (PySem.W.fnOf x x (defArgs st) (defBody st) (defScope st) .none kV doc pm an cdv ct), osl⟩)
    (c : PySem.W.codeIn K cdv x = true) (k : PySem.W.keepIn K (.ref f) = true)
    (hb : ∀ (kV doc pm : Value) (an : Option Addr) (cdv ct : Value) (us : List Value), us.length = ps.length → bindArgs (PySem.W.fnOf x x (defArgs st) (defBody st) (defScope st) .none kV doc pm an cdv ct) ⟨us, []⟩ = pure (ps.zip us)) : DefK K mg x st ps :=
  have F := fun_mk (st := st) l c k
  ⟨f, _, F, PySem.W.mg_of X G a, F.binds hb⟩
section
variable {P : Program} {w : World} {K : PySem.W.Frag} {mg : Str → Option Value} {base : Heap}
theorem DefK.ok {x : Str} {st : Stmt} {N ps : List Str} {k : Nat} {sp : Sp} (d : DefK K mg x st ps) (S : FnScope N ps (defScope st)) (len : ∀ vs H Q E, sp vs H Q E → vs.length = ps.length)
    (hbody : ∀ (f : Addr) (cdv : Value) (A : Around) (outer : List Env) (s : Shared) (H : Hp) (vs : List V) (Q : VK) (E : XK), Room k (A.deeper (envOfC x (defScope st) s.heap.objs.size f cdv)) → sp vs H Q E →
      ∃ t, PSs (cxOf CX0 P w K mg base N x (defScope st) f cdv A outer s H E).nox (defBody st) t ∧ t { nx := fun _ H' => Q .non H', rt := Q } (start N vs) H) : OkF P w K mg base CX0 (k + 1) x ps sp := by
  obtain ⟨f, fd, F, m, b⟩ := d
  exact ⟨f, fd, F.ok S len fun cdv A outer s H vs Q E hr h => hbody f cdv A outer s H vs Q E hr h, m, F.kp, b⟩
theorem DefK.okX {x : Str} {st : Stmt} {N ps : List Str} {k : Nat} {sp : Sp} (d : DefK K mg x st ps) (S : FnScope N ps (defScope st)) (len : ∀ vs H Q E, sp vs H Q E → vs.length = ps.length)
    (hbody : ∀ (f : Addr) (cdv : Value) (A : Around) (outer : List Env) (s : Shared) (H : Hp) (vs : List V) (Q : VK) (E : XK), Room k (A.deeper (envOfC x (defScope st) s.heap.objs.size f cdv)) → sp vs H Q E →
      ∃ t, PSs (cxOf (CXo P w) P w K mg base N x (defScope st) f cdv A outer s H E) (defBody st) t ∧ t { nx := fun _ H' => Q .non H', rt := Q } (start N vs) H) : OkF P w K mg base (CXo P w) (k + 1) x ps sp := by
  obtain ⟨f, fd, F, m, b⟩ := d
  obtain ⟨oc, od, kV, doc, pm, an, cdv, ct, osl, rfl, lk, hcd⟩ := F.ex
  exact ⟨f, _, fn_of lk hcd S len fun A outer s H vs Q E hr hsp => hbody f cdv A outer s H vs Q E hr hsp, m, F.kp, b⟩
end
section
variable {X : Cx} {x : Str} {ps : List Str} {sp : Sp} {k : Nat} {p pos : Pos} {e : Expr} {es : List Expr} {t : TA}
theorem pe_fn (o : OkF X.prog X.w X.K X.mg X.base CX0 k x ps sp) (hr : Room k X.A) (hg : Gl X x) (ha : PA X (e :: es) t) (hdb : (x == ("__debug__" : Str)) = false := by decide)
    (he : starEach (e :: es) X.env = (false, eval e X.env) :: starEach es X.env := by rfl) (hpl : (backTo pos (starEach es X.env)).any (·.1) = false := by rfl) : PE X (.Call (.Name x p) (e :: es) [] pos) (tCall sp [] E0 t) := by
  obtain ⟨f, fd, F, m, kp, b⟩ := o
  exact pe_call F hr hg m kp b .nil pass0 ha hdb he hpl
theorem pe_fnX {E : XK} (o : OkF X.prog X.w X.K X.mg X.base (CXo X.prog X.w) k x ps sp) (hx : Passes (CXo X.prog X.w) X E) (hr : Room k X.A) (hg : Gl X x) (ha : PA X (e :: es) t) (hdb : (x == ("__debug__" : Str)) = false := by decide)
    (he : starEach (e :: es) X.env = (false, eval e X.env) :: starEach es X.env := by rfl) (hpl : (backTo pos (starEach es X.env)).any (·.1) = false := by rfl) : PE X (.Call (.Name x p) (e :: es) [] pos) (tCall sp [] E t) := by
  obtain ⟨f, fd, F, m, kp, b⟩ := o
  exact pe_call F hr hg m kp b .nil hx ha hdb he hpl
theorem px_fn (o : OkF X.prog X.w X.K X.mg X.base (CXo X.prog X.w) k x ps sp) (hr : Room k X.A) (hg : Gl X x) (ha : PA X.nox (e :: es) t) (hdb : (x == ("__debug__" : Str)) = false := by decide)
    (he : starEach (e :: es) X.env = (false, eval e X.env) :: starEach es X.env := by rfl) (hpl : (backTo pos (starEach es X.env)).any (·.1) = false := by rfl) : PX X (.Call (.Name x p) (e :: es) [] pos) (tCallX sp t) := by
  obtain ⟨f, fd, F, m, kp, b⟩ := o
  exact px_call F hr hg m kp b ha hdb he hpl
end
theorem pyl_cx {CX : CXT} {P : Program} {w : World} {K : PySem.W.Frag} {mg : Str → Option Value} {base : Heap} {N : List Str} {qual : Str} {scope : Scope} {f : Addr} {cd : Value} {A : Around} {outer : List Env} {s : Shared} {H : Hp} {E : XK} {k : Nat}
    (ht : P.given.tree = none) (hg : scope.isGenerator = false) (hc : scope.isCoroutine = false) (hr : Room k (A.deeper (envOfC qual scope s.heap.objs.size f cd))) (hk : 32 ≤ k) :
    Pyl (cxOf CX P w K mg base N qual scope f cd A outer s H E) :=
  ⟨ht, ⟨_, _, rfl, hg, hc, rfl, rfl⟩, by have := hr.dp; show (A.deeper _).depth + 100 < _; omega⟩
theorem Pyl.nox {X : Cx} (p : Pyl X) : Pyl X.nox := ⟨p.tree, p.fr, p.dp⟩
theorem law_mk {P : Program} {w : World} {K : PySem.W.Frag} {h : Heap} {mg : Str → Option Value} {n : Nat} {sp : Sp} (X : K.In h) (G : h.Ns mainGlobals mg) {x y : Str} {st : Stmt} {fa f : Addr} {oc : Value} {od an : Option Addr} {osl : Array (Option Value)} {kV doc pm cdv ct : Value} (hfa : mg x = some (.ref fa))
    (a : PySem.W.nsIn K mainGlobals x = some (some (.ref f))) (l : K.lookup f = some ⟨oc, od, .func (PySem.W.fnOf x x (defArgs st) (defBody st) (defScope st) .none kV doc pm an cdv ct), osl⟩)
    (c : PySem.W.codeIn K cdv x = true) (k : PySem.W.keepIn K (.ref f) = true)
    (hb : ∀ v : Value, bindArgs (PySem.W.fnOf x x (defArgs st) (defBody st) (defScope st) .none kV doc pm an cdv ct) ⟨[v], []⟩ = pure [(y, v)])
    (ok : ∀ (fd : FuncData) (base : Heap), K.In base → base.Ns mainGlobals mg → Fun K x x st fa fd → FnOk P w K mg base CX0 n fa fd [y] sp) :
    ∃ fd : FuncData, (∀ (s : Shared) (u : Value), BindsTo s fd ⟨[u], []⟩ [(y, u)]) ∧ ∀ base : Heap, K.In base → base.Ns mainGlobals mg → FnOk P w K mg base CX0 n fa fd [y] sp := by
  have e := hfa.symm.trans (PySem.W.mg_of X G a)
  cases e
  exact ⟨_, fun s u => .of_eq (hb u), fun base kb nb => ok _ base kb nb (fun_mk (st := st) l c k)⟩
end L2
set_option Elab.async false
set_option linter.all false
set_option maxRecDepth 100000
set_option maxHeartbeats 4000000
namespace L2
open PySem PySem.Spec PySem.Calls PyProof.Rows
def capsOf : List (Str × NameKind) → List (Str × Addr) → List (Str × Addr) → List (Str × Addr)
  | [], _, acc => acc
  | (n, k) :: r, cells, acc => if k == .free then capsOf r cells ((n, (cells.lookup n).getD 0) :: acc) else capsOf r cells acc
theorem capsOf_sub {cells : List (Str × Addr)} {x : Str} {c : Addr} : ∀ {names : List (Str × NameKind)} {acc : List (Str × Addr)}, (∀ y ∈ names, y.2 = .free → (cells.lookup y.1).isSome = true) → (capsOf names cells acc).lookup x = some c →
    acc.lookup x = some c ∨ cells.lookup x = some c
  | [], _, _, h => .inl h
  | (n, k) :: r, acc, hf, h => by
    have hr : ∀ y ∈ r, y.2 = .free → (cells.lookup y.1).isSome = true := fun y hy => hf y (List.mem_cons_of_mem _ hy)
    unfold capsOf at h
    by_cases hk : (k == NameKind.free) = true
    · rw [if_pos hk] at h
      rcases capsOf_sub hr h with q | q
      · by_cases hx : (x == n) = true
        · rw [List.lookup_cons, hx] at q
          have e : x = n := beq_iff_eq.mp hx
          subst e
          have z := hf (x, k) (by simp) (beq_iff_eq.mp hk)
          obtain ⟨a, ha⟩ := Option.isSome_iff_exists.mp z
          have ha' : cells.lookup x = some a := ha
          rw [ha'] at q
          right
          rw [ha']
          exact q
        · rw [List.lookup_cons, Bool.eq_false_iff.mpr hx] at q
          exact .inl q
      · exact .inr q
    · rw [if_neg hk] at h
      exact capsOf_sub hr h
theorem capsOf_acc {cells : List (Str × Addr)} {x : Str} : ∀ {names : List (Str × NameKind)} {acc : List (Str × Addr)}, (∃ c, acc.lookup x = some c) → ∃ c, (capsOf names cells acc).lookup x = some c
  | [], _, h => h
  | (n, k) :: r, acc, ⟨c, h⟩ => by
    unfold capsOf
    by_cases hk : (k == NameKind.free) = true
    · rw [if_pos hk]
      refine capsOf_acc ?_
      by_cases hx : (x == n) = true
      · exact ⟨_, by rw [List.lookup_cons, hx]⟩
      · exact ⟨c, by rw [List.lookup_cons, Bool.eq_false_iff.mpr hx]; exact h⟩
    · rw [if_neg hk]
      exact capsOf_acc ⟨c, h⟩
theorem capsOf_has {cells : List (Str × Addr)} {x : Str} : ∀ {names : List (Str × NameKind)} {acc : List (Str × Addr)}, (x, NameKind.free) ∈ names → ∃ c, (capsOf names cells acc).lookup x = some c
  | (n, k) :: r, acc, h => by
    unfold capsOf
    rcases List.mem_cons.mp h with e | h
    · cases e
      rw [if_pos (by decide)]
      exact capsOf_acc ⟨_, by rw [List.lookup_cons, beq_self_eq_true]⟩
    · by_cases hk : (k == NameKind.free) = true
      · rw [if_pos hk]; exact capsOf_has h
      · rw [if_neg hk]; exact capsOf_has h
theorem closure_loop {env : Env} : ∀ (names : List (Str × NameKind)) (acc : List (Str × Addr)), (∀ y ∈ names, y.2 = .free → (env.cells.lookup y.1).isSome = true) →
    (forIn names acc fun (y : Str × NameKind) (r : List (Str × Addr)) => if (y.2 == NameKind.free) = true then (do let a ← cellOf env y.1; pure (ForInStep.yield ((y.1, a) :: r))) else (pure (ForInStep.yield r) : Sem (ForInStep (List (Str × Addr))))) = pure (capsOf names env.cells acc)
  | [], acc, _ => rfl
  | (n, k) :: r, acc, hf => by
    have hr : ∀ y ∈ r, y.2 = .free → (env.cells.lookup y.1).isSome = true := fun y hy => hf y (List.mem_cons_of_mem _ hy)
    rw [List.forIn_cons]
    unfold capsOf
    by_cases hk : (k == NameKind.free) = true
    · obtain ⟨a, ha⟩ := Option.isSome_iff_exists.mp (hf (n, k) (by simp) (beq_iff_eq.mp hk))
      have ha' : env.cells.lookup n = some a := ha
      rw [if_pos hk]
      dsimp only
      rw [if_pos hk, ha']
      have e : cellOf env n = pure a := by unfold cellOf; rw [ha']
      rw [e]
      exact closure_loop r _ hr
    · rw [if_neg hk, if_neg hk]
      exact closure_loop r _ hr
theorem closure_caps {sc : Scope} {env : Env} (hf : ∀ y ∈ sc.names, y.2 = .free → (env.cells.lookup y.1).isSome = true) : closureFor sc env = pure (capsOf sc.names env.cells []) := by
  unfold closureFor
  have h := closure_loop (env := env) sc.names [] hf
  dsimp only
  have e := congrArg (fun t : Sem (List (Str × Addr)) => t >>= fun r => pure r) h
  exact e
end L2
set_option Elab.async false
set_option linter.all false
set_option maxRecDepth 100000
set_option maxHeartbeats 4000000
namespace L2
open PySem PySem.Spec PySem.Calls PyProof.Rows
structure CArg where
  C : Addr
  s₀ : Shared
  H₀ : Hp
  fp : List Addr
def Cx.comp (X : Cx) (sc : Scope) (N : List Str) (c : CArg) : Cx :=
  { X with N := N, s₀ := c.s₀, H₀ := c.H₀, env := compEnvC sc (capsOf sc.names X.env.cells []) c.C X.env, outer := X.stack, stack := X.stack, ex := c.fp, fn := fun _ => false, pn := [], xe := fun _ _ => False }
structure CompOk (SX sc : Scope) (XN N : List Str) (nt : Nat) (caps : List Nat) : Prop where
  kind : sc.kind = .function
  nocell : ∀ y ∈ sc.names, y.2 ≠ .cell
  loc : ∀ y ∈ sc.names, y.2 = .local → sc.names.lookup y.1 = some .local
  free : ∀ y ∈ sc.names, y.2 = .free → SX.names.lookup y.1 = some .cell ∨ SX.names.lookup y.1 = some .free
  len : N.length = nt + caps.length
  cap : ((List.range caps.length).all fun j => match N[nt + j]?, XN[caps.getD j 0]? with
    | some x, some y => x == y && sc.names.lookup x == some .free
    | _, _ => false) = true
theorem mem_lookup {names : List (Str × NameKind)} {x : Str} {k : NameKind} (h : names.lookup x = some k) : (x, k) ∈ names := PySem.mem_of_lookup h
theorem relabel_lookup {env : Env} : ∀ {names : List (Str × NameKind)} {x : Str} {k : NameKind},
    (names.map fun (n, k) => if (k == NameKind.free && env.scope.kind == .function && env.kindOf n == some .cell) = true then (n, NameKind.cell) else (n, k)).lookup x = some k → names.lookup x = some k ∨ (k = .cell ∧ names.lookup x = some .free)
  | [], _, _, h => by simp at h
  | (n, k0) :: r, x, k, h => by
    rw [List.map_cons] at h
    by_cases hx : (x == n) = true
    · by_cases hc : (k0 == NameKind.free && env.scope.kind == .function && env.kindOf n == some .cell) = true
      · dsimp only at h
        rw [if_pos hc, List.lookup_cons, hx] at h
        cases h
        right
        refine ⟨rfl, ?_⟩
        rw [List.lookup_cons, hx]
        simp only [Bool.and_eq_true, beq_iff_eq] at hc
        rw [hc.1.1]
      · dsimp only at h
        rw [if_neg hc, List.lookup_cons, hx] at h
        left
        rw [List.lookup_cons, hx]
        exact h
    · have hx' := Bool.eq_false_iff.mpr hx
      have e : ∀ q : Str × NameKind, q.1 = n → List.lookup x (q :: (r.map fun (n, k) => if (k == NameKind.free && env.scope.kind == .function && env.kindOf n == some .cell) = true then (n, NameKind.cell) else (n, k))) = List.lookup x (r.map fun (n, k) => if (k == NameKind.free && env.scope.kind == .function && env.kindOf n == some .cell) = true then (n, NameKind.cell) else (n, k)) := by
        intro q hq
        obtain ⟨a, b⟩ := q
        dsimp only at hq
        subst hq
        rw [List.lookup_cons, hx']
      rw [e _ (by dsimp only; split <;> rfl)] at h
      rcases relabel_lookup h with z | z
      · left; rw [List.lookup_cons, hx']; exact z
      · right; refine ⟨z.1, ?_⟩; rw [List.lookup_cons, hx']; exact z.2
theorem relabel_free {env : Env} : ∀ {names : List (Str × NameKind)} {x : Str}, names.lookup x = some .free →
    (names.map fun (n, k) => if (k == NameKind.free && env.scope.kind == .function && env.kindOf n == some .cell) = true then (n, NameKind.cell) else (n, k)).lookup x = some .cell ∨
    (names.map fun (n, k) => if (k == NameKind.free && env.scope.kind == .function && env.kindOf n == some .cell) = true then (n, NameKind.cell) else (n, k)).lookup x = some .free
  | [], _, h => by simp at h
  | (n, k0) :: r, x, h => by
    rw [List.map_cons]
    by_cases hx : (x == n) = true
    · rw [List.lookup_cons, hx] at h
      cases h
      dsimp only
      by_cases hc : (NameKind.free == NameKind.free && env.scope.kind == .function && env.kindOf n == some .cell) = true
      · left; rw [if_pos hc, List.lookup_cons, hx]
      · right; rw [if_neg hc, List.lookup_cons, hx]
    · have hx' := Bool.eq_false_iff.mpr hx
      rw [List.lookup_cons, hx'] at h
      dsimp only
      split
      · rw [List.lookup_cons, hx']; exact relabel_free h
      · rw [List.lookup_cons, hx']; exact relabel_free h
theorem comp_loop {prog : Program} {w : World} {A : Around} {R : Result → Shared → Prop} {s : Shared} {elt target iter : Expr} {ifs : List Expr} {scope : Scope} {pos : Pos} {it acc : Value} {env : Env} (J : Nat → Shared → Prop)
    (turn : ∀ n s, J n s → wpAny (model prog w) A (pyNext it) (fun r s₁ => match r with
      | none => R (.ok .next) s₁
      | some v => wpAny (model prog w) A (letOwnedTupleGo target it v) (fun _ s1' => wpAny (model prog w) A (assign target env v) (fun _ s₂ =>
          wpAny (model prog w) A (forIn ifs true fun c r => if r = true then do let ok ← isTrue c env (eval c env); pure (ForInStep.yield ok) else pure (ForInStep.yield r)) (fun ok s₃ =>
            if ok = true then wpAny (model prog w) A (eval elt env) (fun x s₄ => wpAny (model prog w) A (call (.builtin "list.append") [acc, x]) (fun _ s₅ => ∃ m, m < n ∧ J m s₅) (fun _ _ => False) s₄) (fun _ _ => False) s₃
            else ∃ m, m < n ∧ J m s₃) (fun _ _ => False) s₂) (fun _ _ => False) s1') (fun _ _ => False) s₁) (fun _ _ => False) s)
    (n : Nat) (h : J n s) : codeAny (model prog w) A (.compLoop (.ListComp elt [⟨target, iter, ifs, 0⟩] scope pos) 0 it acc env) R s := by
  refine codeAny_loop rfl J (fun n s hJ => ?_) n h
  show wpAny _ A ((compTurn (.ListComp elt [⟨target, iter, ifs, 0⟩] scope pos) 0 it acc env).onRaise (fun x => do noteFrame x env; theTreesLotGoes x)) _ _ s
  refine wpAny_noted ?_
  rw [compTurn_list]
  refine wpAny_bind (wpAny_standAt (wpAny_bind (wpAny_mono (turn n s hJ) (fun r s₁ h₁ => ?_) fun _ _ z => z.elim)))
  cases r with
  | none => exact wpAny_pure h₁
  | some v =>
    refine wpAny_bind (wpAny_mono h₁ (fun _ s1' h1' => ?_) fun _ _ z => z.elim)
    refine wpAny_bind (wpAny_mono h1' (fun _ s₂ h₂ => ?_) fun _ _ z => z.elim)
    refine wpAny_bind (wpAny_mono h₂ (fun ok s₃ h₃ => ?_) fun _ _ z => z.elim)
    cases ok with
    | false => exact wpAny_pure ⟨rfl, h₃⟩
    | true =>
      refine wpAny_bind (wpAny_bind (wpAny_mono h₃ (fun x s₄ h₄ => ?_) fun _ _ z => z.elim))
      refine wpAny_bind (wpAny_mono h₄ (fun _ s₅ h₅ => ?_) fun _ _ z => z.elim)
      exact wpAny_pure (wpAny_pure ⟨rfl, h₅⟩)
section
variable {X : Cx} {pins : List (Addr × Obj)} {σ : St} {H : Hp} {s : Shared} {sc : Scope} {N XN : List Str} {nt : Nat} {caps : List Nat} {SX : Scope}
def capSt (nt : Nat) (caps : List Nat) (σ : St) : St := List.replicate nt none ++ caps.map fun i => σ.getD i none
theorem CompOk.hf (S : CompOk SX sc XN N nt caps) (I : Inv X pins σ H s) (hX : X.env.scope = SX) : ∀ y ∈ sc.names, y.2 = .free → (X.env.cells.lookup y.1).isSome = true := fun y hy hk => by
  have q := S.free y hy hk
  rw [← hX] at q
  obtain ⟨c, e⟩ := I.ok.has y.1 q
  rw [e]; rfl
theorem Inv.enter (S : CompOk SX sc XN N nt caps) (hX : X.env.scope = SX) (hN : X.N = XN) (I : Inv X pins σ H s) {fp : List Addr} (hf : ∀ b ∈ fp, FpOk X pins H b) (hlt : ∀ b ∈ fp, b < s.heap.objs.size) {h' : Heap} {t' : Nat} {m' : Str → Option Value}
    (hn : h'.Ns s.heap.objs.size m') (hk : ∀ b o, s.heap.get? b = some o → h'.get? b = some o) : Inv (X.comp sc N ⟨s.heap.objs.size, s, H, fp⟩) pins (capSt nt caps σ) H { s with heap := h', toks := t' } := by
  have hfr := S.hf I hX
  have sub : ∀ x c, (capsOf sc.names X.env.cells []).lookup x = some c → X.env.cells.lookup x = some c := fun x c e => by
    rcases capsOf_sub hfr e with q | q
    · cases q
    · exact q
  have frs_lt : ∀ b ∈ frs X.stack, b < s.heap.objs.size := fun b hb => by
    obtain ⟨_, o, e, _⟩ := I.stack.mem hb
    exact Heap.lt_size e
  have cells_lt : ∀ x c, X.env.cells.lookup x = some c → c < s.heap.objs.size := fun x c e => by
    obtain ⟨v, z⟩ := I.cell x c e
    exact z.lt
  have offS : ∀ b, b ≠ X.env.locals → b ∉ X.fs → b ∉ frs X.stack := fun b h1 h2 z => by
    rcases List.mem_cons.mp (I.stkSub b z) with q | q
    · exact h1 q
    · exact h2 q
  have hex : ∀ x, ((relabel sc X.env).names.lookup x = some .cell ∨ (relabel sc X.env).names.lookup x = some .free) → ∃ c, (capsOf sc.names X.env.cells []).lookup x = some c := fun x hx => by
    have fr : sc.names.lookup x = some .free := by
      rcases hx with hx | hx
      · rcases relabel_lookup (names := sc.names) hx with z | z
        · exact absurd rfl (S.nocell _ (mem_lookup z))
        · exact z.2
      · rcases relabel_lookup (names := sc.names) hx with z | z
        · exact z
        · cases z.1
    exact capsOf_has (mem_lookup fr)
  refine ⟨⟨I.ok.mod, S.kind, I.ok.glob, I.ok.blt, Nat.le_refl _, fun x y c e1 e2 => I.ok.inj x y c (sub x c e1) (sub y c e2), hex, fun x c e => (by cases e), I.ok.hd, I.ok.frames, .inl rfl, fun b hb => ?_, fun b o e => I.bs b o e, Nat.le_trans I.ok.bsz I.sz, fun b o e hb => ?_, fun b hb => ?_, I.stack, I.stkFree⟩,
    rfl, I.bare, Un.kept hk, ⟨m', hn, fun i x v e1 e2 e3 => ?_⟩, fun x c e => ?_, I.hok.fresh (Nat.le_refl _), fun x c e => I.freeC x c (sub x c e), fun p hp => ?_, I.hok.kept hk, ?_⟩
  · obtain ⟨f0, f1, f2, f3, f4, f5⟩ := hf b hb
    refine ⟨?_, fun x c e => f4 x c (sub x c e)⟩
    exact Nat.ne_of_lt (hlt b hb)
  · obtain ⟨f0, f1, f2, f3, f4, f5⟩ := hf b hb
    rcases f3 with z | z
    · exact I.ok.noex b o e z
    · exact absurd (Nat.lt_of_lt_of_le (Heap.lt_size e) (Nat.le_trans I.ok.bsz z)) (Nat.lt_irrefl _)
  · obtain ⟨f0, f1, f2, f3, f4, f5⟩ := hf b hb
    exact offS b f1 f2
  · -- a name that is taken over
    unfold capSt at e2
    by_cases hi : i < nt
    · rw [List.getElem?_append_left (by simpa using hi), List.getElem?_replicate] at e2
      split at e2 <;> cases e2
    · rw [List.getElem?_append_right (by simpa using hi), List.length_replicate, List.getElem?_map] at e2
      obtain ⟨j, rfl⟩ : ∃ j, i = nt + j := ⟨i - nt, by omega⟩
      rw [Nat.add_sub_cancel_left] at e2
      cases ec : caps[j]? with
      | none => rw [ec] at e2; cases e2
      | some ci =>
        rw [ec] at e2
        have e2' : σ.getD ci none = some v := by simpa using e2
        have hj : j < caps.length := (List.getElem?_eq_some_iff.mp ec).1
        have q := List.all_eq_true.mp S.cap j (List.mem_range.mpr hj)
        have ed : caps.getD j 0 = ci := by rw [List.getD_eq_getElem?_getD, ec]; rfl
        have e1' : N[nt + j]? = some x := e1
        rw [e1', ed] at q
        cases ex : XN[ci]? with
        | none => rw [ex] at q; cases q
        | some y =>
          rw [ex] at q
          simp only [Bool.and_eq_true, beq_iff_eq] at q
          obtain ⟨rfl, qf⟩ := q
          have eσ : σ[ci]? = some (some v) := by
            rw [List.getD_eq_getElem?_getD] at e2'
            cases z : σ[ci]? with
            | none => rw [z] at e2'; cases e2'
            | some w' => rw [z] at e2'; exact congrArg some e2'
          obtain ⟨m, hm, hl⟩ := I.loc
          have vis := S.free _ (mem_lookup qf) rfl
          rw [← hX] at vis
          obtain ⟨u, r, lk⟩ := hl ci x v (by rw [hN]; exact ex) eσ (.inr vis)
          refine ⟨u, r, .inr ⟨relabel_free qf, ?_⟩⟩
          obtain ⟨c, hc⟩ := capsOf_has (cells := X.env.cells) (acc := []) (mem_lookup qf)
          have hc' := sub x c hc
          rcases lk with ⟨k, _⟩ | ⟨k, c2, ec2, z⟩
          · exfalso
            have k' : X.env.scope.names.lookup x = some .local := k
            dsimp only at vis
            rcases vis with v1 | v1
            · rw [k'] at v1; cases v1
            · rw [k'] at v1; cases v1
          · rw [hc'] at ec2
            cases ec2
            obtain ⟨o, ho, hd⟩ := z
            exact ⟨c, hc, o, hk c o ho, hd⟩
  · obtain ⟨v, o, ho, hd⟩ := I.cell x c (sub x c e)
    exact ⟨v, o, hk c o ho, hd⟩
  · obtain ⟨e, n, ne, nf, d⟩ := I.pin p (List.mem_append_right _ (show p ∈ pins from (List.mem_append.mp hp).elim (fun z => absurd (show p ∈ ([] : List (Addr × Obj)) from z) (by simp)) id))
    exact ⟨hk _ _ e, n, Nat.ne_of_lt (Heap.lt_size e), offS _ ne nf, d⟩
  · unfold capSt
    rw [List.length_append, List.length_replicate, List.length_map]
    exact S.len.symm
end
def tComp (nt : Nat) (caps : List Nat) (wi : TI) (g : CArg → TG) (tc : CArg → TT) (te : CArg → TE) : TE := fun σ H Q => wi σ H fun J H1 => ∀ D, H1 D = none → ∀ c : CArg, ∃ W : Nat → Nat → St → List V → Hp → Prop,
  (∃ m, W 0 m (capSt nt caps σ) [] (upd H1 D (.lst []))) ∧ ∀ i m σ' ys H', W i m σ' ys H' → H' D = some (.lst ys) ∧ ys.length < sizeLine ∧
    ((J.stop i H' ∧ Q (.ref D) H') ∨ (J.go i H' ∧ ∀ x H2, J.yld i H' x H2 → g c x σ' H2 fun σ3 H3 => tc c σ3 H3 fun b H4 => if b = true then te c σ3 H4 fun y H5 => ∃ ys', H5 D = some (.lst ys') ∧ ys'.length < sizeLine ∧ ∃ m', m' < m ∧ W (i + 1) m' σ3 (ys' ++ [y]) (upd H5 D (.lst (ys' ++ [y])))
      else ∃ ys' m', m' < m ∧ W (i + 1) m' σ3 ys' H4))
def tTrue : CArg → TT := fun _ _ H Q => Q true H
section
variable {X : Cx} {tg iter elt : Expr} {ifs : List Expr} {sc SX : Scope} {N XN : List Str} {nt : Nat} {caps : List Nat} {wi : TI} {g : CArg → TG} {tc : CArg → TT} {te : CArg → TE} {pos : Pos}
def PTs (X : Cx) (ifs : List Expr) (t : TT) : Prop := ∀ (pins : List (Addr × Obj)) (s : Shared) (σ : St) (H : Hp) (Q : Bool → Hp → Prop), Inv X pins σ H s → t σ H Q →
  wpAny (model X.prog X.w) X.A (forIn ifs true fun c r => if r = true then do let ok ← isTrue c X.env (eval c X.env); pure (ForInStep.yield ok) else pure (ForInStep.yield r)) (TP X pins σ Q) X.xe s
theorem pts_nil {c : CArg} : PTs X [] (tTrue c) := fun pins s σ H Q I h => wpAny_tests_nil ⟨H, I, h⟩
theorem pts_one {c : Expr} {t : TT} (h : PT X c t) : PTs X [c] t := fun pins s σ H Q I hq => wpAny_tests_one (h pins s σ H Q I hq)
theorem comp_block {pins : List (Addr × Obj)} {σ : St} {H2 : Hp} {s2 : Shared} {it : Addr} {fp : List Addr} {tn : Nat → Heap → Prop} {J : It} {Q : VK} {RR : Value → Addr → Result → Shared → Prop} {E : Value → Shared → Prop}
    (S : CompOk SX sc XN N nt caps) (hX : X.env.scope = SX) (hN : X.N = XN) (hc : X.calm = true) (hg : ∀ c, PG (X.comp sc N c) tg (g c)) (ht : ∀ c, PTs (X.comp sc N c) ifs (tc c)) (he : ∀ c, PE (X.comp sc N c) elt (te c))
    (I2 : Inv X pins σ H2 s2) (T : Turn X.prog X.w X.K tg J fp it tn) (st2 : tn 0 s2.heap) (f2 : ∀ b ∈ fp, FpOk X pins H2 b)
    (h : ∀ D, H2 D = none → ∀ c : CArg, ∃ W : Nat → Nat → St → List V → Hp → Prop,
      (∃ m, W 0 m (capSt nt caps σ) [] (upd H2 D (.lst []))) ∧ ∀ i m σ' ys H', W i m σ' ys H' → H' D = some (.lst ys) ∧ ys.length < sizeLine ∧
      ((J.stop i H' ∧ Q (.ref D) H') ∨ (J.go i H' ∧ ∀ x H2, J.yld i H' x H2 → g c x σ' H2 fun σ3 H3 => tc c σ3 H3 fun b H4 => if b = true then te c σ3 H4 fun y H5 => ∃ ys', H5 D = some (.lst ys') ∧ ys'.length < sizeLine ∧ ∃ m', m' < m ∧ W (i + 1) m' σ3 (ys' ++ [y]) (upd H5 D (.lst (ys' ++ [y])))
        else ∃ ys' m', m' < m ∧ W (i + 1) m' σ3 ys' H4)))
    (hR : ∀ D C s' m H', s'.heap.Ns C m → s2.heap.objs.size < C → Inv X pins σ H' s' → H' C = none → C ≠ X.env.locals → (∀ x c, X.env.cells.lookup x = some c → c ≠ C) → (∀ p ∈ X.pn ++ pins, p.1 ≠ C) → X.s₀.heap.objs.size ≤ C → Q (.ref D) H' → RR (.ref D) C (.ok .next) s') :
    wpAny (model X.prog X.w) X.A (newList []) (fun acc s₃ => wpAny (model X.prog X.w) X.A (newFunctionEnv sc X.env.globals (capsOf sc.names X.env.cells []) [] X.env.qual none .none (some X.env)) (fun cenv s₄ =>
      codeAny (model X.prog X.w) X.A (.compStart (.ListComp elt [⟨tg, iter, ifs, 0⟩] sc pos) 0 (.ref it) acc { cenv with scope := relabel sc X.env }) (RR acc cenv.locals) s₄) E s₃) E s2 := by
  have lt2 : ∀ b ∈ fp, b < s2.heap.objs.size := fun b hb => by
    obtain ⟨o, e, _⟩ := T.obj _ _ st2 b hb
    exact Heap.lt_size e
  have hD0 : H2 s2.heap.objs.size = none := I2.hok.fresh (Nat.le_refl _)
  have I3 : Inv X pins σ (upd H2 s2.heap.objs.size (.lst [])) { s2 with heap := s2.heap.push { cls := .type "list", dict := none, data := .seq ([] : List Value).toArray } } :=
    I2.laid (t' := s2.toks) (fun b u e => Heap.get?_push_of_some _ e) (Nat.le_refl _) ⟨Nat.zero_le _, [], 0, .nil, Heap.get?_push_size _ rfl⟩
  have f3 : ∀ b ∈ fp, FpOk X pins (upd H2 s2.heap.objs.size (.lst [])) b := fun b hb => ⟨by rw [upd_ne (Nat.ne_of_lt (lt2 b hb))]; exact (f2 b hb).1, (f2 b hb).2⟩
  refine wpAny_newObj_type (wpAny_newFunctionEnv S.nocell (by intro y hy; simp at hy) (fun h1 hn1 hs1 => ?_) S.kind)
  dsimp only at hn1 hs1 ⊢
  generalize hg3 : ({ s2 with heap := s2.heap.push { cls := .type "list", dict := none, data := .seq ([] : List Value).toArray } } : Shared) = s3 at I3
  have e3 : s2.heap.push { cls := .type "list", dict := none, data := .seq ([] : List Value).toArray } = s3.heap := by rw [← hg3]
  rw [e3] at hn1 hs1 ⊢
  have lt3 : ∀ b ∈ fp, b < s3.heap.objs.size := fun b hb => by
    rw [← e3, Heap.size_push]
    exact Nat.lt_succ_of_lt (lt2 b hb)
  have hC2 : s2.heap.objs.size < s3.heap.objs.size := by rw [← e3, Heap.size_push]; exact Nat.lt_succ_self _
  have hk : ∀ b o, s3.heap.get? b = some o → h1.get? b = some o := fun b o e => hs1.extBut b o (Nat.ne_of_lt (Heap.lt_size e)) (Heap.get?_push_of_some _ e)
  have I4 := I3.enter S hX hN f3 lt3 (t' := s2.toks + ([] : List (Str × Value)).length) hn1 hk
  have fin : ∀ {s' : Shared} {σ' : St} {H' : Hp}, Inv (X.comp sc N ⟨s3.heap.objs.size, s3, upd H2 s2.heap.objs.size (.lst []), fp⟩) pins σ' H' s' → Q (.ref s2.heap.objs.size) H' → RR (.ref s2.heap.objs.size) s3.heap.objs.size (.ok .next) s' := fun {s' σ' H'} I' q => by
    obtain ⟨m, hm, _⟩ := I'.loc
    refine hR _ _ s' m H' hm hC2 (I3.call' (ch := fp) I'.os I'.base I'.hok I'.bare fun b hb => ?_) I'.free (Nat.ne_of_gt I3.lt) (fun x c e => ?_) (fun p hp => ?_) I3.sz q
    · obtain ⟨g0, g1, g2, g3, g4, g5⟩ := f3 b hb
      exact ⟨g3, g1, g4, g5⟩
    · obtain ⟨v, z⟩ := I3.cell x c e
      exact Nat.ne_of_lt z.lt
    · exact Nat.ne_of_lt (Heap.lt_size (I3.pin p hp).1)
  have subc : ∀ x c, (capsOf sc.names X.env.cells []).lookup x = some c → X.env.cells.lookup x = some c := fun x c e => by
    rcases capsOf_sub (S.hf I3 hX) e with q | q
    · cases q
    · exact q
  obtain ⟨W, ⟨m0, w0⟩, step⟩ := h _ hD0 ⟨s3.heap.objs.size, s3, upd H2 s2.heap.objs.size (.lst []), fp⟩
  have stat : ∀ {H' : Hp}, (∀ b ∈ fp, H' b = none) → ∀ b ∈ fp, FpOk (X.comp sc N ⟨s3.heap.objs.size, s3, upd H2 s2.heap.objs.size (.lst []), fp⟩) pins H' b := fun {H'} hn b hb => by
    obtain ⟨g0, g1, g2, g3, g4, g5⟩ := f3 b hb
    refine ⟨hn b hb, Nat.ne_of_lt (lt3 b hb), fun z => ?_, .inl hb, fun x c e => g4 x c (subc x c e), fun p hp => g5 p (List.mem_append_right _ ((List.mem_append.mp hp).elim (fun z => absurd (show p ∈ ([] : List (Addr × Obj)) from z) (by simp)) id))⟩
    rcases List.mem_cons.mp (I3.stkSub b z) with q | q
    · exact g1 q
    · exact g2 q
  have st4 : tn 0 h1 := T.keep _ _ _ st2 fun b hb o e => hk b o (by rw [← e3]; exact Heap.get?_push_of_some _ e)
  have fr4 : ∀ b ∈ fp, upd H2 s2.heap.objs.size (.lst []) b = none := fun b hb => (f3 b hb).1
  have hs4 : ({ s2 with heap := h1, toks := s2.toks + ([] : List (Str × Value)).length } : Shared) = { s3 with heap := h1, toks := s2.toks + ([] : List (Str × Value)).length } := by rw [← hg3]
  rw [hs4]
  have loop : codeAny (model X.prog X.w) X.A (.compLoop (.ListComp elt [⟨tg, iter, ifs, 0⟩] sc pos) 0 (.ref it) (.ref s2.heap.objs.size) (compEnvC sc (capsOf sc.names X.env.cells []) s3.heap.objs.size X.env)) (RR (.ref s2.heap.objs.size) s3.heap.objs.size)
      { s3 with heap := h1, toks := s2.toks + ([] : List (Str × Value)).length } := by
    refine comp_loop (fun n s' => ∃ i σ' ys H', Inv (X.comp sc N ⟨s3.heap.objs.size, s3, upd H2 s2.heap.objs.size (.lst []), fp⟩) pins σ' H' s' ∧ tn i s'.heap ∧ (∀ b ∈ fp, H' b = none) ∧ W i n σ' ys H') ?_ m0 ⟨0, _, [], _, I4, st4, fr4, w0⟩
    rintro n s' ⟨i, σ', ys, H', I', st', fr', w'⟩
    obtain ⟨hD, hz, alt⟩ := step i n σ' ys H' w'
    rcases alt with ⟨stop, qn⟩ | ⟨go, turn⟩
    · refine thn (T.done (X.comp sc N ⟨s3.heap.objs.size, s3, upd H2 s2.heap.objs.size (.lst []), fp⟩) rfl rfl rfl hc i pins s' σ' H' _ I' (stat fr') st' stop) fun r s4 ⟨hr, J4⟩ => ?_
      subst hr
      exact fin J4 qn
    · refine thn (T.item (X.comp sc N ⟨s3.heap.objs.size, s3, upd H2 s2.heap.objs.size (.lst []), fp⟩) rfl rfl rfl hc i pins s' σ' H' _ I' (stat fr') st' go) fun r s4 ⟨u, hr, h4⟩ => ?_
      subst hr
      refine thn h4 fun _ s5 ⟨x, H5, I5, r5, y5, st5, fr5⟩ => ?_
      have I5' := I5.pinned (stat fr5) (T.obj _ _ st5)
      refine thn (hg _ _ s5 σ' H5 x u _ I5' r5 (turn x H5 y5)) fun _ s6 ⟨σ6, H6, I6, q6⟩ => ?_
      refine thn (ht _ _ s6 σ6 H6 _ I6 q6) fun ok s7 ⟨H7, I7, q7⟩ => ?_
      have again : ∀ {s8 : Shared} {H8 : Hp} {ys8 : List V} {m8 : Nat}, Inv (X.comp sc N ⟨s3.heap.objs.size, s3, upd H2 s2.heap.objs.size (.lst []), fp⟩) (pins ++ pinsAt fp s5.heap) σ6 H8 s8 → m8 < n → W (i + 1) m8 σ6 ys8 H8 →
          ∃ m, m < n ∧ ∃ i σ' ys H', Inv (X.comp sc N ⟨s3.heap.objs.size, s3, upd H2 s2.heap.objs.size (.lst []), fp⟩) pins σ' H' s8 ∧ tn i s8.heap ∧ (∀ b ∈ fp, H' b = none) ∧ W i m σ' ys H' := fun {s8 H8 ys8 m8} I8 hm w8 => by
        refine ⟨m8, hm, i + 1, σ6, ys8, H8, I8.unpinned, T.keep _ _ _ st5 fun b hb o e => (I8.pin (b, o) (List.mem_append_right _ (List.mem_append_right _ (mem_pinsAt hb e)))).1, fun b hb => ?_, w8⟩
        obtain ⟨o, e, d⟩ := T.obj _ _ st5 b hb
        exact (I8.pin (b, o) (List.mem_append_right _ (List.mem_append_right _ (mem_pinsAt hb e)))).2.1
      cases ok with
      | false =>
        obtain ⟨ys8, m8, hm, w8⟩ := q7
        exact again I7 hm w8
      | true =>
        refine thn (he _ _ s7 σ6 H7 _ I7 q7) fun y s8 ⟨v, H8, I8, r8, ys8, e8, z8, m8, hm, w8⟩ => ?_
        refine thn (mt_append (X := X.comp sc N ⟨s3.heap.objs.size, s3, upd H2 s2.heap.objs.size (.lst []), fp⟩) _ s8 σ6 H8 (.ref s2.heap.objs.size) [v] _ [y] (fun _ H9 => H9 = upd H8 s2.heap.objs.size (.lst (ys8 ++ [v]))) I8 rfl (.cons r8 .nil) ⟨_, ys8, v, rfl, rfl, e8, z8, rfl⟩)
          fun _ s9 ⟨_, H9, I9, _, e9⟩ => ?_
        subst e9
        exact again I9 hm w8
  exact codeAny_compStart_list loop (T.self X.A 0 _ _ _ st4 loop)
theorem pe_comp (S : CompOk SX sc XN N nt caps) (hi : PI X tg iter wi) (hg : ∀ c, PG (X.comp sc N c) tg (g c)) (ht : ∀ c, PTs (X.comp sc N c) ifs (tc c)) (he : ∀ c, PE (X.comp sc N c) elt (te c)) (hc : X.calm = true := by rfl) (hX : X.env.scope = SX := by rfl) (hN : X.N = XN := by rfl)
    (hs : ∀ x, foldedSetIterable iter X.env x = pure x := by intro _; rfl) : PE X (.ListComp elt [⟨tg, iter, ifs, 0⟩] sc pos) (tComp nt caps wi g tc te) := by
  intro pins s σ H Q I h
  rw [eval_ListComp]
  refine wpAny_comprehension_free (use := none) rfl hs (closure_caps (S.hf I hX)) S.kind S.loc (thn (hi pins s σ H _ I h) fun v s1 h1 => thn h1 fun itv s2 h2 => ?_)
  obtain ⟨it, fp, tn, J, H2, rfl, I2, T, st2, f2, h2⟩ := h2
  refine comp_block (RR := fun acc C => compPost (model X.prog X.w) X.A X.xe none (EP X pins σ Q) acc C) S hX hN hc hg ht he I2 T st2 f2 h2 fun D C s' m H' hm hC I' hf hL hcl hpn hs0 q => ?_
  refine ⟨m, hm, fun h'' hs'' => ⟨.ref D, H', I'.turned (it := C) (t' := s'.toks) (fun b o hb e => hs''.extBut b o hb e) hf hL (.inr hs0) hcl hpn, rfl, q⟩⟩
theorem ps_comp {y : Str} {py : Pos} {i : Nat} {spos : Pos} (S : CompOk SX sc XN N nt caps) (hnd : X.N.Nodup) (hix : X.N[i]? = some y) (hy : Loc X.env.scope y) (hi : PI X tg iter wi) (hg : ∀ c, PG (X.comp sc N c) tg (g c)) (ht : ∀ c, PTs (X.comp sc N c) ifs (tc c)) (he : ∀ c, PE (X.comp sc N c) elt (te c))
    (hsw : swapsWith (.ListComp elt [⟨tg, iter, ifs, 0⟩] sc pos) (some (.Name y py)) spos.line X.env = pure true := by rfl) (hc : X.calm = true := by rfl) (hX : X.env.scope = SX := by rfl) (hN : X.N = XN := by rfl)
    (hs : ∀ x, foldedSetIterable iter X.env x = pure x := by intro _; rfl) (hf : X.fn y = true ∨ X.env.scope.names.lookup y = some .local := by first | exact .inl rfl | exact .inr rfl) : PS X (.Assign [.Name y py] (.ListComp elt [⟨tg, iter, ifs, 0⟩] sc pos) spos) (tAsg (tComp nt caps wi g tc te) (gName i)) := by
  intro pins s σ H D I h
  rw [exec_Assign_Name_used _ _ _ _ hsw]
  refine wpAny_bind (wpAny_standAt (wpAny_bind ?_))
  show wpAny _ X.A (do let _ ← comprehension (.ListComp elt [⟨tg, iter, ifs, 0⟩] sc pos) sc X.env _ (newList []) false (eval iter X.env) (some (assign (.Name y py) X.env))) _ _ s
  refine wpAny_bind (wpAny_mono (wpAny_comprehension_free (use := some (assign (.Name y py) X.env)) (Q := fun _ s' => SP X pins D .next s') rfl hs (closure_caps (S.hf I hX)) S.kind S.loc (thn (hi pins s σ H _ I h) fun v s1 h1 => thn h1 fun itv s2 h2 => ?_)) (fun _ s' hq => wpAny_pure (wpAny_pure hq)) fun _ _ e => e)
  obtain ⟨it, fp, tn, J, H2, rfl, I2, T, st2, f2, h2⟩ := h2
  refine comp_block (Q := fun x H1 => gName i x σ H1 D.nx) (RR := fun acc C => compPost (model X.prog X.w) X.A X.xe (some (assign (.Name y py) X.env)) (fun _ s' => SP X pins D .next s') acc C) S hX hN hc hg ht he I2 T st2 f2 h2 fun D' C s' m H' hm hC I' hfC hL hcl hpn hs0 q => ?_
  show wpAny _ X.A (assign (.Name y py) X.env (.ref D')) _ _ s'
  refine wpAny_assign_Name (store_ok2 (v := .ref D') I' hnd hix hy rfl (fun s5 I5 hch => ?_) hf)
  obtain ⟨a, sb, ha⟩ := hch
  have hCa : C ≠ a := by
    rcases ha with z | z
    · rw [z]; exact hL
    · exact (hcl _ _ z).symm
  refine ⟨m, hm.sameBut sb hCa, fun h'' hs'' => ⟨σ.set i (some (.ref D')), H', I5.turned (it := C) (t' := s5.toks) (fun b o hb e => hs''.extBut b o hb e) hfC hL (.inr hs0) hcl hpn, q⟩⟩
end
end L2
set_option Elab.async false
set_option linter.all false
set_option maxRecDepth 100000
set_option maxHeartbeats 4000000
namespace L2
open PySem PySem.Spec PySem.Calls PyProof.Rows
section
variable {X : Cx} {pins : List (Addr × Obj)} {σ : St} {H : Hp} {s : Shared}
end
section
variable {X : Cx} {es : List Expr} {x1 : Nat} {tpos : Pos}
end
end L2
set_option Elab.async false
set_option linter.all false
set_option maxRecDepth 100000
set_option maxHeartbeats 4000000
namespace L3
open PySem PySem.Spec PySem.Calls PyProof.Rows L2
inductive D where
  | non | bl (b : Bool) | int (i : Int) | str (x : Str) | raw (v : V)
  | tup (ds : List D) | lst (ds : List D)
  /-- dicts by keys that are ints and texts; by tuples of these; objects -/
  | dk (ks : List Key) (ds : List D) | dt (ks : List (List Key)) (ds : List D)
  | obj (C : Addr) (fs : List Str) (ds : List D)
  /-- an exception of the class at C -/
  | exc (C : Addr)
  /-- the script: a list of ints that is only read -/
  | scr (ns : List Int)
mutual
/-- v is d in the heap H -/
def Is (K : PySem.W.Frag) (H : Hp) : D → V → Prop
  | .non, v => v = .non
  | .bl b, v => v = .bl b
  | .int i, v => v = .int i
  | .str x, v => v = .str x
  | .raw u, v => v = u
  | .tup ds, v => ∃ a xs, v = .ref a ∧ SqT K H a xs ∧ IsL K H ds xs
  | .lst ds, v => ∃ a xs, v = .ref a ∧ Rd H a (.lst xs) ∧ IsL K H ds xs
  | .dk ks ds, v => ∃ a xs o, v = .ref a ∧ H a = some (.frz o (.dK (ks.zip xs))) ∧ ks.length = xs.length ∧ IsL K H ds xs
  | .dt ks ds, v => ∃ a xs, v = .ref a ∧ Rd H a (.dT (ks.zip xs)) ∧ ks.length = xs.length ∧ IsL K H ds xs
  | .obj C fs ds, v => ∃ a dx xs, v = .ref a ∧ H a = some (.ins C dx (fs.zip xs)) ∧ fs.length = xs.length ∧ IsL K H ds xs
  | .exc C, v => ∃ a, v = .ref a ∧ H a = some (xobj a (.ref C))
  | .scr ns, v => ∃ a, v = .ref a ∧ SqL K H a (ns.map V.int)
def IsL (K : PySem.W.Frag) (H : Hp) : List D → List V → Prop
  | [], xs => xs = []
  | d :: ds, xs => ∃ x r, xs = x :: r ∧ Is K H d x ∧ IsL K H ds r
end
section
variable {K : PySem.W.Frag} {H H' : Hp}
theorem same_rd {a : Addr} {u : HO} (e : Same H H') (h : Rd H a u) : Rd H' a u := by
  rcases h with h | ⟨o, h⟩
  · exact .inl (e _ _ h)
  · exact .inr ⟨o, e _ _ h⟩
theorem same_tup {a : Addr} {xs : List V} (e : Same H H') (h : SqT K H a xs) : SqT K H' a xs := by
  rcases h with (h | ⟨o, h⟩) | h
  · exact .inl (.inl (e _ _ h))
  · exact .inl (.inr ⟨o, e _ _ h⟩)
  · exact .inr h
mutual
theorem Is.mono (e : Same H H') : ∀ {d : D} {v : V}, Is K H d v → Is K H' d v
  | .non, _, h => by simp only [Is] at h ⊢; exact h
  | .bl _, _, h => by simp only [Is] at h ⊢; exact h
  | .int _, _, h => by simp only [Is] at h ⊢; exact h
  | .str _, _, h => by simp only [Is] at h ⊢; exact h
  | .raw _, _, h => by simp only [Is] at h ⊢; exact h
  | .tup ds, _, h => by simp only [Is] at h ⊢; obtain ⟨a, xs, e1, e2, e3⟩ := h; exact ⟨a, xs, e1, same_tup e e2, IsL.mono e e3⟩
  | .lst ds, _, h => by simp only [Is] at h ⊢; obtain ⟨a, xs, e1, e2, e3⟩ := h; exact ⟨a, xs, e1, same_rd e e2, IsL.mono e e3⟩
  | .dk ks ds, _, h => by simp only [Is] at h ⊢; obtain ⟨a, xs, o, e1, e2, e4, e3⟩ := h; exact ⟨a, xs, o, e1, e _ _ e2, e4, IsL.mono e e3⟩
  | .dt ks ds, _, h => by simp only [Is] at h ⊢; obtain ⟨a, xs, e1, e2, e4, e3⟩ := h; exact ⟨a, xs, e1, same_rd e e2, e4, IsL.mono e e3⟩
  | .obj C fs ds, _, h => by simp only [Is] at h ⊢; obtain ⟨a, dx, xs, e1, e2, e4, e3⟩ := h; exact ⟨a, dx, xs, e1, e _ _ e2, e4, IsL.mono e e3⟩
  | .exc C, _, h => by simp only [Is] at h ⊢; obtain ⟨a, e1, e2⟩ := h; exact ⟨a, e1, e _ _ e2⟩
  | .scr ns, _, h => by simp only [Is] at h ⊢; obtain ⟨a, e1, e2⟩ := h; exact ⟨a, e1, e.seq e2⟩
theorem IsL.mono (e : Same H H') : ∀ {ds : List D} {xs : List V}, IsL K H ds xs → IsL K H' ds xs
  | [], _, h => by simp only [IsL] at h ⊢; exact h
  | d :: ds, _, h => by
    simp only [IsL] at h ⊢
    obtain ⟨x, r, e1, e2, e3⟩ := h
    exact ⟨x, r, e1, Is.mono e e2, IsL.mono e e3⟩
end
theorem IsL.nil : IsL K H [] [] := by simp only [IsL]
theorem IsL.cons {d : D} {ds : List D} {x : V} {xs : List V} (h : Is K H d x) (t : IsL K H ds xs) : IsL K H (d :: ds) (x :: xs) := by
  simp only [IsL]; exact ⟨x, xs, rfl, h, t⟩
theorem IsL.len : ∀ {ds : List D} {xs : List V}, IsL K H ds xs → xs.length = ds.length
  | [], _, h => by simp only [IsL] at h; subst h; rfl
  | d :: ds, _, h => by
    simp only [IsL] at h
    obtain ⟨x, r, rfl, _, t⟩ := h
    simp [IsL.len t]
theorem IsL.get : ∀ {ds : List D} {xs : List V} {i : Nat} {d : D}, IsL K H ds xs → ds[i]? = some d → ∃ x, xs[i]? = some x ∧ Is K H d x
  | [], _, _, _, _, e => by simp at e
  | d :: ds, _, 0, d', h, e => by
    simp only [IsL] at h
    obtain ⟨x, r, rfl, h1, _⟩ := h
    simp at e
    subst e
    exact ⟨x, rfl, h1⟩
  | d :: ds, _, i + 1, d', h, e => by
    simp only [IsL] at h
    obtain ⟨x, r, rfl, _, t⟩ := h
    exact IsL.get (i := i) t (by simpa using e)
theorem IsL.append : ∀ {ds es : List D} {xs ys : List V}, IsL K H ds xs → IsL K H es ys → IsL K H (ds ++ es) (xs ++ ys)
  | [], _, _, _, h, t => by simp only [IsL] at h; subst h; exact t
  | d :: ds, es, _, ys, h, t => by
    simp only [IsL] at h
    obtain ⟨x, r, rfl, h1, h2⟩ := h
    exact IsL.cons h1 (IsL.append h2 t)
theorem IsL.take : ∀ {ds : List D} {xs : List V} (n : Nat), IsL K H ds xs → IsL K H (ds.take n) (xs.take n)
  | _, _, 0, _ => by simpa using IsL.nil
  | [], _, n + 1, h => by simp only [IsL] at h; subst h; simpa using IsL.nil
  | d :: ds, _, n + 1, h => by
    simp only [IsL] at h
    obtain ⟨x, r, rfl, h1, h2⟩ := h
    exact IsL.cons h1 (IsL.take n h2)
theorem IsL.drop : ∀ {ds : List D} {xs : List V} (n : Nat), IsL K H ds xs → IsL K H (ds.drop n) (xs.drop n)
  | _, _, 0, h => by simpa using h
  | [], _, n + 1, h => by simp only [IsL] at h; subst h; simpa using IsL.nil
  | d :: ds, _, n + 1, h => by
    simp only [IsL] at h
    obtain ⟨x, r, rfl, h1, h2⟩ := h
    exact IsL.drop n h2
theorem IsL.set : ∀ {ds : List D} {xs : List V} (i : Nat) {d : D} {x : V}, IsL K H ds xs → Is K H d x → IsL K H (ds.set i d) (xs.set i x)
  | [], _, _, _, _, h, _ => by simp only [IsL] at h; subst h; simpa using IsL.nil
  | d :: ds, _, 0, _, _, h, hx => by
    simp only [IsL] at h
    obtain ⟨x, r, rfl, h1, h2⟩ := h
    exact IsL.cons hx h2
  | d :: ds, _, i + 1, _, _, h, hx => by
    simp only [IsL] at h
    obtain ⟨x, r, rfl, h1, h2⟩ := h
    exact IsL.cons h1 (IsL.set i h2 hx)
theorem IsL.get_none {ds : List D} {xs : List V} {i : Nat} (h : IsL K H ds xs) (e : ds[i]? = none) : xs[i]? = none := by
  have := h.len
  rw [List.getElem?_eq_none_iff] at e ⊢
  omega
theorem IsL.get' {ds : List D} {xs : List V} {i : Nat} {x : V} (h : IsL K H ds xs) (e : xs[i]? = some x) : ∃ d, ds[i]? = some d ∧ Is K H d x := by
  cases q : ds[i]? with
  | none => rw [h.get_none q] at e; cases e
  | some d =>
    obtain ⟨y, e1, e2⟩ := h.get q
    rw [e] at e1
    cases e1
    exact ⟨d, rfl, e2⟩
theorem IsL.of_ints : ∀ {ns : List Int} {xs : List V}, IsL K H (ns.map D.int) xs → xs = ns.map V.int
  | [], _, h => by simp only [List.map_nil, IsL] at h; subst h; rfl
  | n :: ns, _, h => by
    simp only [List.map_cons, IsL] at h
    obtain ⟨x, r, rfl, h1, h2⟩ := h
    simp only [Is] at h1
    rw [h1, IsL.of_ints h2]; rfl
end
structure Pur (F H F' H' : Hp) : Prop where
  ff : Same F F'
  fh : Same F' H'
  hh : Same H H'
  new : ∀ b, F' b ≠ none → F b ≠ none ∨ H b = none
theorem Pur.refl {F H : Hp} (h : Same F H) : Pur F H F H := ⟨Same.refl _, h, Same.refl _, fun _ q => .inl q⟩
theorem Pur.trans {F H F1 H1 F2 H2 : Hp} (a : Pur F H F1 H1) (b : Pur F1 H1 F2 H2) : Pur F H F2 H2 :=
  ⟨a.ff.trans b.ff, b.fh, a.hh.trans b.hh, fun c q => (b.new c q).elim (fun z => a.new c z) fun z => .inr (a.hh.free z)⟩
theorem Pur.lay {F H : Hp} (h : Same F H) {p : Addr} {o : HO} (hp : H p = none) : Pur F H (upd F p o) (upd H p o) := by
  have fp : F p = none := h.free hp
  refine ⟨fun b u e => ?_, fun b u e => ?_, fun b u e => ?_, fun b q => ?_⟩
  · rw [upd_ne (ne_of_none e fp)]; exact e
  · by_cases hb : b = p
    · subst hb; rw [upd_same] at e ⊢; exact e
    · rw [upd_ne hb] at e ⊢; exact h _ _ e
  · rw [upd_ne (ne_of_none e hp)]; exact e
  · by_cases hb : b = p
    · subst hb; exact .inr hp
    · rw [upd_ne hb] at q; exact .inl q
theorem Pur.layOwn {F H : Hp} (h : Same F H) {p : Addr} {o : HO} (hp : H p = none) : Pur F H F (upd H p o) := by
  refine ⟨Same.refl _, fun b u e => ?_, fun b u e => ?_, fun b q => .inl q⟩
  · rw [upd_ne (ne_of_none (h _ _ e) hp)]; exact h _ _ e
  · rw [upd_ne (ne_of_none e hp)]; exact e
def Sl (K : PySem.W.Frag) (F : Hp) (Γ : List (Option D)) (σ : L2.St) : Prop := ∀ (i : Nat) (d : D), Γ[i]? = some (some d) → ∃ v, σ[i]? = some (some v) ∧ Is K F d v
theorem Sl.mono {K : PySem.W.Frag} {F F' : Hp} {Γ : List (Option D)} {σ : L2.St} (h : Sl K F Γ σ) (e : Same F F') : Sl K F' Γ σ := fun i d q => by
  obtain ⟨v, h1, h2⟩ := h i d q
  exact ⟨v, h1, h2.mono e⟩
def tP (K : PySem.W.Frag) (Γ : List (Option D)) (d : D) : TE := fun σ H Q => ∃ F, Same F H ∧ Sl K F Γ σ ∧ ∀ v H' F', Pur F H F' H' → Is K F' d v → Q v H'
def tPT (K : PySem.W.Frag) (Γ : List (Option D)) (b : Bool) : TT := fun σ H Q => ∃ F, Same F H ∧ Sl K F Γ σ ∧ ∀ H' F', Pur F H F' H' → Q b H'
def tPL (K : PySem.W.Frag) (Γ : List (Option D)) (ds : List D) : TA := fun σ H Q => ∃ F, Same F H ∧ Sl K F Γ σ ∧ ∀ vs H' F', Pur F H F' H' → IsL K F' ds vs → Q vs H'
def P3 (X : Cx) (Γ : List (Option D)) (e : Expr) (d : D) : Prop := PE X e (tP X.K Γ d)
def PT3 (X : Cx) (Γ : List (Option D)) (e : Expr) (b : Bool) : Prop := PT X e (tPT X.K Γ b)
def PL3 (X : Cx) (Γ : List (Option D)) (es : List Expr) (ds : List D) : Prop := PA X es (tPL X.K Γ ds)
def PF3 (X : Cx) (Γ : List (Option D)) (e : Expr) (ds : List D) : Prop := PE X e fun σ H Q => ∃ F, Same F H ∧ Sl X.K F Γ σ ∧ ∀ p xs H' F', Pur F H F' H' → H p = none → F' p = none → H' p = some (.lst xs) → IsL X.K F' ds xs → Q (.ref p) H'
theorem PE.of {X : Cx} {e : Expr} {t u : TE} (h : PE X e t) (i : ∀ σ H Q, u σ H Q → t σ H Q) : PE X e u := fun pins s σ H Q I hq => h pins s σ H Q I (i _ _ _ hq)
theorem PT.of {X : Cx} {e : Expr} {t u : TT} (h : PT X e t) (i : ∀ σ H Q, u σ H Q → t σ H Q) : PT X e u := fun pins s σ H Q I hq => h pins s σ H Q I (i _ _ _ hq)
theorem PA.of {X : Cx} {e : List Expr} {t u : TA} (h : PA X e t) (i : ∀ σ H Q, u σ H Q → t σ H Q) : PA X e u := fun p pins s σ H Q I hq => h p pins s σ H Q I (i _ _ _ hq)
section
variable {X : Cx} {Γ : List (Option D)} {a b c : Expr} {d d' : D} {pos : Pos}
theorem p_var {i : Nat} {x : Str} (hN : X.N[i]? = some x) (hv : Vis X.env.scope x) (hΓ : Γ[i]? = some (some d)) (hd : (x == ("__debug__" : Str)) = false := by decide) (hcd : (x == ("__classdict__" : Str)) = false := by decide) : P3 X Γ (.Name x pos) d :=
  PE.of (pe_var hN hv hd hcd) fun σ H Q ⟨F, fh, sl, k⟩ => by
    obtain ⟨v, e, h⟩ := sl i d hΓ
    exact ⟨v, e, k v H F (Pur.refl fh) h⟩
theorem p_int {i j} : P3 X Γ (.Constant (.int i) j pos) (.int i) := PE.of pe_int fun σ H Q ⟨F, fh, sl, k⟩ => k _ H F (Pur.refl fh) (by simp only [Is])
theorem p_bl {i j} : P3 X Γ (.Constant (.bool i) j pos) (.bl i) := PE.of pe_bl fun σ H Q ⟨F, fh, sl, k⟩ => k _ H F (Pur.refl fh) (by simp only [Is])
theorem p_str {i j} : P3 X Γ (.Constant (.str i) j pos) (.str i) := PE.of pe_str fun σ H Q ⟨F, fh, sl, k⟩ => k _ H F (Pur.refl fh) (by simp only [Is])
theorem p_glob {x : Str} {v : V} {u : Value} (hg : Gl X x) (hm : X.mg x = some u) (r : RelV v u) (hi : ∀ F, Is X.K F d v) (hd : (x == ("__debug__" : Str)) = false := by decide) : P3 X Γ (.Name x pos) d :=
  PE.of (pe_glob hg hm r hd) fun σ H Q ⟨F, fh, sl, k⟩ => k _ H F (Pur.refl fh) (hi F)
theorem p_bltn {x : Str} {v : V} {u : Value} (hg : Gl X x) (hm : X.mg x = none) (hv : bootBuiltins x = some u) (r : RelV v u) (hn : x ≠ "__name__" := by decide) (hd : (x == ("__debug__" : Str)) = false := by decide) : P3 X Γ (.Name x pos) (.raw v) :=
  PE.of (pe_bltn hg hm hv r hn hd) fun σ H Q ⟨F, fh, sl, k⟩ => k _ H F (Pur.refl fh) (by simp only [Is])
theorem tP2 {K : PySem.W.Frag} {σ : L2.St} {H : Hp} {R : V → V → Hp → Prop} (h : ∃ F, Same F H ∧ Sl K F Γ σ ∧ ∀ x y H2 F2, Pur F H F2 H2 → Is K F2 d x → Is K F2 d' y → R x y H2) :
    tP K Γ d σ H fun x H1 => tP K Γ d' σ H1 fun y H2 => R x y H2 := by
  obtain ⟨F, fh, sl, k⟩ := h
  exact ⟨F, fh, sl, fun x H1 F1 p1 i1 => ⟨F1, p1.fh, sl.mono p1.ff, fun y H2 F2 p2 i2 => k x y H2 F2 (p1.trans p2) (i1.mono p2.ff) i2⟩⟩
theorem p_opR {op : Operator} {r : R2} {d3 : D} (ho : OpR X (binaryOp op) r) (ha : P3 X Γ a d) (hb : P3 X Γ b d') (hr : ∀ x y H F Q, Same F H → Is X.K F d x → Is X.K F d' y → (∀ v H' F', Pur F H F' H' → Is X.K F' d3 v → Q v H') → r x y H Q) : P3 X Γ (.BinOp a op b pos) d3 :=
  PE.of (pe_op ho ha hb) fun σ H Q ⟨F, fh, sl, k⟩ => tP2 ⟨F, fh, sl, fun x y H2 F2 p i1 i2 => hr x y H2 F2 Q p.fh i1 i2 fun v H' F' p' i => k v H' F' (p.trans p') i⟩
theorem isI {K : PySem.W.Frag} {F : Hp} {i : Int} {v : V} (h : Is K F (.int i) v) : v = .int i := by simp only [Is] at h; exact h
theorem isS {K : PySem.W.Frag} {F : Hp} {i : Str} {v : V} (h : Is K F (.str i) v) : v = .str i := by simp only [Is] at h; exact h
theorem isB {K : PySem.W.Frag} {F : Hp} {i : Bool} {v : V} (h : Is K F (.bl i) v) : v = .bl i := by simp only [Is] at h; exact h
theorem isR {K : PySem.W.Frag} {F : Hp} {i v : V} (h : Is K F (.raw i) v) : v = i := by simp only [Is] at h; exact h
theorem p_opI {op : Operator} {C : Int → Int → Prop} {g : Int → Int → V} {i j : Int} {d3 : D} (ho : OpR X (binaryOp op) (rI C g)) (ha : P3 X Γ a (.int i)) (hb : P3 X Γ b (.int j)) (hc : C i j) (h3 : ∀ F, Is X.K F d3 (g i j)) : P3 X Γ (.BinOp a op b pos) d3 :=
  p_opR ho ha hb fun x y H F Q fh i1 i2 k => ⟨i, j, isI i1, isI i2, hc, k _ H F (Pur.refl fh) (h3 F)⟩
theorem p_opI0 {op : Operator} {g : Int → Int → V} {i j : Int} {d3 : D} (ho : OpR X (binaryOp op) (rI0 g)) (ha : P3 X Γ a (.int i)) (hb : P3 X Γ b (.int j)) (h3 : ∀ F, Is X.K F d3 (g i j)) : P3 X Γ (.BinOp a op b pos) d3 :=
  p_opR ho ha hb fun x y H F Q fh i1 i2 k => ⟨i, j, isI i1, isI i2, k _ H F (Pur.refl fh) (h3 F)⟩
theorem i_int {K : PySem.W.Frag} {i : Int} : ∀ F, Is K F (.int i) (.int i) := fun _ => by simp only [Is]
theorem i_bl {K : PySem.W.Frag} {i : Bool} : ∀ F, Is K F (.bl i) (.bl i) := fun _ => by simp only [Is]
theorem i_str {K : PySem.W.Frag} {i : Str} : ∀ F, Is K F (.str i) (.str i) := fun _ => by simp only [Is]
theorem i_raw {K : PySem.W.Frag} {i : V} : ∀ F, Is K F (.raw i) i := fun _ => by simp only [Is]
theorem i_non {K : PySem.W.Frag} : ∀ F, Is K F .non .non := fun _ => by simp only [Is]
variable {i j : Int}
theorem p_add (ha : P3 X Γ a (.int i)) (hb : P3 X Γ b (.int j)) : P3 X Γ (.BinOp a .Add b pos) (.int (i + j)) := p_opI0 op_add ha hb i_int
theorem p_sub (ha : P3 X Γ a (.int i)) (hb : P3 X Γ b (.int j)) : P3 X Γ (.BinOp a .Sub b pos) (.int (i - j)) := p_opI0 op_sub ha hb i_int
theorem p_mul (ha : P3 X Γ a (.int i)) (hb : P3 X Γ b (.int j)) (h : IntMulOk i j) : P3 X Γ (.BinOp a .Mult b pos) (.int (i * j)) := p_opI op_mulI ha hb h i_int
theorem p_mod (ha : P3 X Γ a (.int i)) (hb : P3 X Γ b (.int j)) (h : 0 < j) : P3 X Γ (.BinOp a .Mod b pos) (.int (i % j)) := p_opI op_mod ha hb h i_int
theorem p_fdivP (py : Pyl X) (ha : P3 X Γ a (.int i)) (hb : P3 X Γ b (.int j)) (h : 0 < j) : P3 X Γ (.BinOp a .FloorDiv b pos) (.int (i / j)) :=
  p_opI (op_fdivP py) ha hb (by omega) (fun F => by rw [Int.fdiv_eq_ediv_of_nonneg _ (Int.le_of_lt h)]; exact i_int F)
end
theorem atI_is {K : PySem.W.Frag} {F : Hp} {ds : List D} {xs : List V} {i : Int} {d : D} (h : IsL K F ds xs) (e : atI ds i = some d) : ∃ x, atI xs i = some x ∧ Is K F d x := by
  unfold atI at e ⊢
  rw [h.len]
  cases q : ixN ds.length i with
  | none => rw [q] at e; cases e
  | some j =>
    rw [q] at e
    exact h.get (i := j) e
section
variable {X : Cx} {Γ : List (Option D)} {a b c : Expr} {d d' : D} {pos : Pos} {i : Int} {ds : List D}
theorem p_ixR {r : R2} {d3 : D} (ho : IxR X r) (ha : P3 X Γ a d) (hb : P3 X Γ b d') (hr : ∀ x y H F Q, Same F H → Is X.K F d x → Is X.K F d' y → (∀ v H' F', Pur F H F' H' → Is X.K F' d3 v → Q v H') → r x y H Q) (hs : PlainIx b) : P3 X Γ (.Subscript a b pos) d3 :=
  PE.of (pe_ix ho ha hb hs) fun σ H Q ⟨F, fh, sl, k⟩ => tP2 ⟨F, fh, sl, fun x y H2 F2 p i1 i2 => hr x y H2 F2 Q p.fh i1 i2 fun v H' F' p' i => k v H' F' (p.trans p') i⟩
theorem p_ixT (ha : P3 X Γ a (.tup ds)) (hb : P3 X Γ b (.int i)) (he : atI ds i = some d) (hs : PlainIx b := by exact fun _ _ => rfl) : P3 X Γ (.Subscript a b pos) d :=
  p_ixR ix_tup ha hb (fun x y H F Q fh i1 i2 k => by
    simp only [Is] at i1 i2
    obtain ⟨p, xs, rfl, h1, h2⟩ := i1
    obtain ⟨v, e1, e2⟩ := atI_is h2 he
    exact ⟨p, xs, i, v, rfl, i2, same_tup fh h1, e1, k v H F (Pur.refl fh) e2⟩) hs
theorem p_ixL (ha : P3 X Γ a (.lst ds)) (hb : P3 X Γ b (.int i)) (he : atI ds i = some d) (hs : PlainIx b := by exact fun _ _ => rfl) : P3 X Γ (.Subscript a b pos) d :=
  p_ixR ix_list ha hb (fun x y H F Q fh i1 i2 k => by
    simp only [Is] at i1 i2
    obtain ⟨p, xs, rfl, h1, h2⟩ := i1
    obtain ⟨v, e1, e2⟩ := atI_is h2 he
    exact ⟨p, xs, i, v, rfl, i2, .inl (same_rd fh h1), e1, k v H F (Pur.refl fh) e2⟩) hs
theorem p_ixS {x : Str} {c : Nat} (ha : P3 X Γ a (.str x)) (hb : P3 X Γ b (.int i)) (hz : x.length ≤ sizeLine) (he : atI x.cps.toList i = some c) (hs : PlainIx b := by exact fun _ _ => rfl) : P3 X Γ (.Subscript a b pos) (.str ⟨#[c]⟩) :=
  p_ixR ix_str ha hb (fun x' y H F Q fh i1 i2 k => by
    simp only [Is] at i1 i2
    exact ⟨x, i, c, i1, i2, hz, he, k _ H F (Pur.refl fh) (i_str F)⟩) hs
variable {e : Expr} {es : List Expr}
theorem pl_nil : PL3 X Γ [] [] := PA.of pa_nil fun σ H Q ⟨F, fh, sl, k⟩ => k [] H F (Pur.refl fh) IsL.nil
theorem pl_cons (ha : P3 X Γ e d) (hr : PL3 X Γ es ds) (hs : starEach (e :: es) X.env = (false, eval e X.env) :: starEach es X.env := by rfl) : PL3 X Γ (e :: es) (d :: ds) :=
  PA.of (pa_cons ha hr hs) fun σ H Q ⟨F, fh, sl, k⟩ => ⟨F, fh, sl, fun x H1 F1 p1 i1 => ⟨F1, p1.fh, sl.mono p1.ff, fun xs H2 F2 p2 i2 => k (x :: xs) H2 F2 (p1.trans p2) (IsL.cons (i1.mono p2.ff) i2)⟩⟩
theorem p_tup {x1} (h : PL3 X Γ es ds) (hz : ds.length ≤ sizeLine := by (simp only [List.length_cons, List.length_nil]; decide)) : P3 X Γ (.Tuple es x1 pos) (.tup ds) :=
  PE.of (pe_tup h) fun σ H Q ⟨F, fh, sl, k⟩ => ⟨F, fh, sl, fun xs H1 F1 p1 i1 => ⟨by rw [i1.len]; exact hz, fun p hp => k _ _ _ (p1.trans (Pur.lay p1.fh hp)) (by
    simp only [Is]
    exact ⟨p, xs, rfl, .inl (.inl upd_same), i1.mono (Pur.lay p1.fh hp).ff⟩)⟩⟩
theorem pf_lst (h : PL3 X Γ es ds) (hz : ds.length ≤ sizeLine := by (simp only [List.length_cons, List.length_nil]; decide)) : PF3 X Γ (.List es pos) ds :=
  PE.of (pe_lst h) fun σ H Q ⟨F, fh, sl, k⟩ => ⟨F, fh, sl, fun xs H1 F1 p1 i1 => ⟨by rw [i1.len]; exact hz, fun p hp => k p xs _ F1 (p1.trans (Pur.layOwn p1.fh hp)) (p1.hh.free hp) (p1.fh.free hp) upd_same i1⟩⟩
theorem PF3.p (h : PF3 X Γ e ds) : P3 X Γ e (.lst ds) := PE.of h fun σ H Q ⟨F, fh, sl, k⟩ => ⟨F, fh, sl, fun p xs H' F' pu hp fp e i => by
  have w : Same F' (upd F' p (.lst xs)) := fun b u q => by rw [upd_ne (ne_of_none q fp)]; exact q
  have wf : Same (upd F' p (.lst xs)) H' := fun b u q => by
    by_cases hb : b = p
    · subst hb; rw [upd_same] at q; cases q; exact e
    · rw [upd_ne hb] at q; exact pu.fh _ _ q
  have w2 : Pur F H (upd F' p (.lst xs)) H' := by
    refine ⟨pu.ff.trans w, wf, pu.hh, fun b q => ?_⟩
    by_cases hb : b = p
    · subst hb; exact .inr hp
    · rw [upd_ne hb] at q; exact pu.new b q
  exact k _ _ _ w2 (by simp only [Is]; exact ⟨p, xs, rfl, .inl upd_same, i.mono w⟩)⟩
theorem p_lst (h : PL3 X Γ es ds) (hz : ds.length ≤ sizeLine := by (simp only [List.length_cons, List.length_nil]; decide)) : P3 X Γ (.List es pos) (.lst ds) := (pf_lst h hz).p
end
end L3
set_option Elab.async false
set_option linter.all false
set_option maxRecDepth 100000
set_option maxHeartbeats 4000000
namespace L3
open PySem PySem.Spec PySem.Calls PyProof.Rows L2
mutual
def beqD : D → D → Bool
  | .non, .non => true
  | .bl a, .bl b => a == b
  | .int a, .int b => a == b
  | .str a, .str b => a == b
  | .tup a, .tup b => beqL a b
  | .lst a, .lst b => beqL a b
  | _, _ => false
def beqL : List D → List D → Bool
  | [], [] => true
  | a :: as, b :: bs => beqD a b && beqL as bs
  | _, _ => false
end
mutual
/-- plain values: no dicts, no objects -/
def pln : D → Bool
  | .non => true
  | .bl _ => true
  | .int _ => true
  | .str _ => true
  | .tup a => plnL a
  | .lst a => plnL a
  | _ => false
def plnL : List D → Bool
  | [] => true
  | a :: as => pln a && plnL as
end
mutual
/-- of one kind wherever they are compared -/
def kin : D → D → Bool
  | .non, .non => true
  | .bl _, .bl _ => true
  | .int _, .int _ => true
  | .str _, .str _ => true
  | .tup a, .tup b => kins a b
  | .lst a, .lst b => kins a b
  | _, _ => false
def kins : List D → List D → Bool
  | a :: as, b :: bs => kin a b && kins as bs
  | _, _ => true
end
mutual
def dep : D → Nat
  | .tup a => depL a + 1
  | .lst a => depL a + 1
  | _ => 0
def depL : List D → Nat
  | [] => 0
  | a :: as => max (dep a) (depL as)
end
theorem kin_inv {d e : D} (h : kin d e = true) : (d = .non ∧ e = .non) ∨ (∃ a b, d = .bl a ∧ e = .bl b) ∨ (∃ a b, d = .int a ∧ e = .int b) ∨ (∃ a b, d = .str a ∧ e = .str b) ∨ (∃ a b, d = .tup a ∧ e = .tup b ∧ kins a b = true) ∨ (∃ a b, d = .lst a ∧ e = .lst b ∧ kins a b = true) := by
  rw [kin.eq_def] at h
  split at h
  · exact .inl ⟨rfl, rfl⟩
  · exact .inr (.inl ⟨_, _, rfl, rfl⟩)
  · exact .inr (.inr (.inl ⟨_, _, rfl, rfl⟩))
  · exact .inr (.inr (.inr (.inl ⟨_, _, rfl, rfl⟩)))
  · exact .inr (.inr (.inr (.inr (.inl ⟨_, _, rfl, rfl, h⟩))))
  · exact .inr (.inr (.inr (.inr (.inr ⟨_, _, rfl, rfl, h⟩))))
  · exact absurd h (by decide)
mutual
theorem beqD_refl : ∀ {d : D}, pln d = true → beqD d d = true
  | .non, _ => by simp [beqD]
  | .bl _, _ => by simp [beqD]
  | .int _, _ => by simp [beqD]
  | .str _, _ => by simp [beqD]
  | .tup a, h => by rw [beqD]; rw [pln] at h; exact beqL_refl h
  | .lst a, h => by rw [beqD]; rw [pln] at h; exact beqL_refl h
  | .raw _, h => by simp [pln] at h
  | .dk _ _, h => by simp [pln] at h
  | .dt _ _, h => by simp [pln] at h
  | .obj _ _ _, h => by simp [pln] at h
  | .exc _, h => by simp [pln] at h
  | .scr _, h => by simp [pln] at h
theorem beqL_refl : ∀ {d : List D}, plnL d = true → beqL d d = true
  | [], _ => by simp [beqL]
  | a :: as, h => by
    rw [plnL, Bool.and_eq_true] at h
    rw [beqL, beqD_refl h.1, beqL_refl h.2]; rfl
end
mutual
theorem beqD_eq : ∀ {d e : D}, beqD d e = true → d = e
  | .non, e, h => by cases e <;> simp [beqD] at h ⊢
  | .bl _, e, h => by cases e <;> simp [beqD] at h ⊢; exact h
  | .int _, e, h => by cases e <;> simp [beqD] at h ⊢; exact h
  | .str _, e, h => by cases e <;> simp [beqD] at h ⊢; exact h
  | .tup a, e, h => by cases e <;> simp only [beqD, Bool.false_eq_true] at h; rw [beqL_eq h]
  | .lst a, e, h => by cases e <;> simp only [beqD, Bool.false_eq_true] at h; rw [beqL_eq h]
  | .raw _, e, h => by cases e <;> simp [beqD] at h
  | .dk _ _, e, h => by cases e <;> simp [beqD] at h
  | .dt _ _, e, h => by cases e <;> simp [beqD] at h
  | .obj _ _ _, e, h => by cases e <;> simp [beqD] at h
  | .exc _, e, h => by cases e <;> simp [beqD] at h
  | .scr _, e, h => by cases e <;> simp [beqD] at h
theorem beqL_eq : ∀ {d e : List D}, beqL d e = true → d = e
  | [], e, h => by cases e <;> simp [beqL] at h ⊢
  | a :: as, e, h => by
    cases e with
    | nil => simp [beqL] at h
    | cons b bs =>
      rw [beqL, Bool.and_eq_true] at h
      rw [beqD_eq h.1, beqL_eq h.2]
end
theorem beqD_ne {d e : D} (h : d ≠ e) : beqD d e = false := by
  cases q : beqD d e with
  | false => rfl
  | true => exact absurd (beqD_eq q) h
theorem beqL_all : ∀ (ds es : List D), ds.length = es.length → ((List.range ds.length).all fun j => beqD (ds.getD j .non) (es.getD j .non)) = beqL ds es
  | [], [], _ => by simp [beqL]
  | [], _ :: _, h => by simp at h
  | _ :: _, [], h => by simp at h
  | a :: as, b :: bs, h => by
    have ih := beqL_all as bs (by simpa using h)
    rw [beqL, ← ih, List.length_cons, List.range_succ_eq_map, List.all_cons, List.all_map]
    rfl
theorem beqL_len : ∀ {ds es : List D}, ds.length ≠ es.length → beqL ds es = false
  | [], [], h => absurd rfl h
  | [], _ :: _, _ => by simp [beqL]
  | _ :: _, [], _ => by simp [beqL]
  | a :: as, b :: bs, h => by
    rw [beqL, beqL_len (ds := as) (es := bs) (fun z => h (by simp [z])), Bool.and_false]
theorem kins_get : ∀ {ds es : List D} {i : Nat} {d e : D}, kins ds es = true → ds[i]? = some d → es[i]? = some e → kin d e = true
  | [], _, _, _, _, _, h, _ => by simp at h
  | _ :: _, [], _, _, _, _, _, h => by simp at h
  | a :: as, b :: bs, 0, d, e, h, h1, h2 => by
    simp at h1 h2
    subst h1 h2
    rw [kins, Bool.and_eq_true] at h
    exact h.1
  | a :: as, b :: bs, i + 1, d, e, h, h1, h2 => by
    rw [kins, Bool.and_eq_true] at h
    exact kins_get (i := i) h.2 (by simpa using h1) (by simpa using h2)
theorem dep_get : ∀ {ds : List D} {i : Nat} {d : D}, ds[i]? = some d → dep d ≤ depL ds
  | [], _, _, h => by simp at h
  | a :: as, 0, d, h => by simp at h; subst h; rw [depL]; exact Nat.le_max_left _ _
  | a :: as, i + 1, d, h => by
    rw [depL]
    exact Nat.le_trans (dep_get (i := i) (by simpa using h)) (Nat.le_max_right _ _)
section
variable {X : Cx} {pins : List (Addr × Obj)} {σ : L2.St} {H : Hp} {s : Shared}
theorem Is.same (I : Inv X pins σ H s) : ∀ (n : Nat) {v : V} {d e : D}, dep d ≤ n → kin d e = true → Is X.K H d v → Is X.K H e v → d = e := by
  intro n
  induction n with
  | zero =>
    intro v d e hn hk h h'
    rcases kin_inv hk with ⟨rfl, rfl⟩ | ⟨_, _, rfl, rfl⟩ | ⟨_, _, rfl, rfl⟩ | ⟨_, _, rfl, rfl⟩ | ⟨_, _, rfl, rfl, hk⟩ | ⟨_, _, rfl, rfl, hk⟩ <;> simp only [Is] at h h' <;> first
      | rfl
      | (rw [h] at h'; injection h' with z; rw [z]; done)
      | (rw [dep] at hn; omega)
  | succ n ih =>
    intro v d e hn hk h h'
    have go : ∀ {ds es : List D} {xs : List V}, depL ds ≤ n → kins ds es = true → IsL X.K H ds xs → IsL X.K H es xs → ds = es := by
      intro ds es xs hd hks h1 h2
      have l1 := h1.len
      have l2 := h2.len
      refine List.ext_getElem? fun i => ?_
      cases q : xs[i]? with
      | none =>
        have z : xs.length ≤ i := List.getElem?_eq_none_iff.mp q
        rw [List.getElem?_eq_none_iff.mpr (by omega), List.getElem?_eq_none_iff.mpr (by omega)]
      | some v =>
        obtain ⟨d, e1, i1⟩ := h1.get' q
        obtain ⟨e, e2, i2⟩ := h2.get' q
        rw [e1, e2, ih (Nat.le_trans (dep_get e1) hd) (kins_get hks e1 e2) i1 i2]
    rcases kin_inv hk with ⟨rfl, rfl⟩ | ⟨_, _, rfl, rfl⟩ | ⟨_, _, rfl, rfl⟩ | ⟨_, _, rfl, rfl⟩ | ⟨_, _, rfl, rfl, hk⟩ | ⟨_, _, rfl, rfl, hk⟩ <;> simp only [Is] at h h' <;> first
      | rfl
      | (rw [h] at h'; injection h' with z; rw [z]; done)
      | (rw [dep] at hn
         obtain ⟨a, xs, rfl, s1, i1⟩ := h
         obtain ⟨a', ys, e', s2, i2⟩ := h'
         cases e'
         first
         | (cases I.tuple_inj s1 s2; rw [go (by omega) hk i1 i2]; done)
         | (cases I.list_inj (.inl s1) (.inl s2); rw [go (by omega) hk i1 i2]; done))
def placeEq (ds es : List D) (j : Nat) : Bool := beqD (ds.getD j .non) (es.getD j .non)
theorem items_eq {xs ys : List V} {ds es : List D} {us vs : List Value} {A : Around} (r1 : Vals xs us) (r2 : Vals ys vs) (h1 : IsL X.K H ds xs) (h2 : IsL X.K H es ys)
    (hk : kins ds es = true) {n : Nat} (hn : depL ds ≤ n)
    (ih : ∀ (x y : V) (d e : D) (u v : Value), dep d ≤ n → Is X.K H d x → Is X.K H e y → kin d e = true → RelV x u → RelV y v → SeqAt.EqAt A s u v (beqD d e)) :
    ∀ j (q1 : j < us.toArray.size) (q2 : j < vs.toArray.size), SeqAt.EqAt A s us.toArray[j] vs.toArray[j] (placeEq ds es j) := by
  intro j q1 q2
  have e1 := r1.length
  have e2 := r2.length
  have l1 := h1.len
  have l2 := h2.len
  have p1 : j < us.length := by simpa using q1
  have p2 : j < vs.length := by simpa using q2
  have x1 : xs[j]? = some (xs[j]'(by omega)) := List.getElem?_eq_getElem _
  have y1 : ys[j]? = some (ys[j]'(by omega)) := List.getElem?_eq_getElem _
  obtain ⟨d, d1, i1⟩ := h1.get' x1
  obtain ⟨e, c1, i2⟩ := h2.get' y1
  obtain ⟨u, hu, ru⟩ := r1.get x1
  obtain ⟨v, hv, rv⟩ := r2.get y1
  have z1 : us.toArray[j] = u := by
    have : us[j]? = some (us[j]'p1) := List.getElem?_eq_getElem _
    rw [hu] at this
    simpa using (Option.some.inj this).symm
  have z2 : vs.toArray[j] = v := by
    have : vs[j]? = some (vs[j]'p2) := List.getElem?_eq_getElem _
    rw [hv] at this
    simpa using (Option.some.inj this).symm
  rw [z1, z2]
  unfold placeEq
  rw [List.getD_eq_getElem?_getD, List.getD_eq_getElem?_getD, d1, c1]
  exact ih _ _ _ _ u v (Nat.le_trans (dep_get d1) hn) i1 i2 (kins_get hk d1 c1) ru rv
theorem all_is {xs ys : List V} {ds es : List D} {us vs : List Value} (r1 : Vals xs us) (r2 : Vals ys vs) (h1 : IsL X.K H ds xs) (h2 : IsL X.K H es ys) :
    ((List.range (min us.toArray.size vs.toArray.size)).all (placeEq ds es) && us.toArray.size == vs.toArray.size) = beqL ds es := by
  have e1 := r1.length
  have e2 := r2.length
  have l1 := h1.len
  have l2 := h2.len
  simp only [List.size_toArray]
  by_cases hl : us.length = vs.length
  · rw [← hl, Nat.min_self, beq_self_eq_true, Bool.and_true, ← e1, l1]
    exact beqL_all ds es (by omega)
  · rw [beqL_len (by omega), show (us.length == vs.length) = false by simpa using hl, Bool.and_false]
theorem rc_tup3 {a b : Addr} {xs ys : List V} {ds es : List D} {A : Around} (I : Inv X pins σ H s) (hx : SqT X.K H a xs) (hy : SqT X.K H b ys) (h1 : IsL X.K H ds xs) (h2 : IsL X.K H es ys) (hu : A.units < cLine)
    (hk : kins ds es = true) {n : Nat} (hn : depL ds ≤ n)
    (ih : ∀ (x y : V) (d e : D) (u v : Value), dep d ≤ n → Is X.K H d x → Is X.K H e y → kin d e = true → RelV x u → RelV y v → SeqAt.EqAt A.in1 s u v (beqD d e)) : SeqAt.RcAt A s (.ref a) (.ref b) (beqL ds es) := by
  obtain ⟨us, r1, t1, _⟩ := I.tuple hx
  obtain ⟨vs, r2, t2, _⟩ := I.tuple hy
  have z := SeqAt.RcAt.tuples (show s.heap.IsTuple a us.toArray from t1) (show s.heap.IsTuple b vs.toArray from t2) hu (items_eq r1 r2 h1 h2 hk hn ih)
  rw [all_is r1 r2 h1 h2] at z
  exact z
theorem rc_lst3 {a b : Addr} {xs ys : List V} {ds es : List D} {A : Around} (I : Inv X pins σ H s) (hx : SqL X.K H a xs) (hy : SqL X.K H b ys) (h1 : IsL X.K H ds xs) (h2 : IsL X.K H es ys) (hu : A.units < cLine)
    (hk : kins ds es = true) {n : Nat} (hn : depL ds ≤ n)
    (ih : ∀ (x y : V) (d e : D) (u v : Value), dep d ≤ n → Is X.K H d x → Is X.K H e y → kin d e = true → RelV x u → RelV y v → SeqAt.EqAt A.in1 s u v (beqD d e)) : SeqAt.RcAt A s (.ref a) (.ref b) (beqL ds es) := by
  obtain ⟨us, r1, t1, _⟩ := I.list hx
  obtain ⟨vs, r2, t2, _⟩ := I.list hy
  have e1 := r1.length
  have e2 := r2.length
  have l1 := h1.len
  have l2 := h2.len
  by_cases hl : us.length = vs.length
  · have z := SeqAt.RcAt.lists t1.isList t2.isList (by simpa using hl) hu (items_eq r1 r2 h1 h2 hk hn ih)
    have q : (List.range us.toArray.size).all (placeEq ds es) = beqL ds es := by
      simp only [List.size_toArray]
      rw [← e1, l1]
      exact beqL_all ds es (by omega)
    rw [q] at z
    exact z
  · rw [beqL_len (by omega)]
    exact SeqAt.RcAt.lists_lengths t1.isList t2.isList (by simpa using hl) hu
theorem ne_tup3 {a b : Addr} {xs ys : List V} {ds es : List D} {A : Around} (I : Inv X pins σ H s) (hx : SqT X.K H a xs) (hy : SqT X.K H b ys) (h1 : IsL X.K H ds xs) (h2 : IsL X.K H es ys) (hu : A.units < cLine)
    (hk : kins ds es = true) {n : Nat} (hn : depL ds ≤ n)
    (ih : ∀ (x y : V) (d e : D) (u v : Value), dep d ≤ n → Is X.K H d x → Is X.K H e y → kin d e = true → RelV x u → RelV y v → SeqAt.EqAt A.in1 s u v (beqD d e)) : SeqAt.RcNeAt A s (.ref a) (.ref b) (!beqL ds es) := by
  obtain ⟨us, r1, t1, _⟩ := I.tuple hx
  obtain ⟨vs, r2, t2, _⟩ := I.tuple hy
  have z := SeqAt.RcNeAt.tuples (show s.heap.IsTuple a us.toArray from t1) (show s.heap.IsTuple b vs.toArray from t2) hu (items_eq r1 r2 h1 h2 hk hn ih)
  rw [all_is r1 r2 h1 h2] at z
  exact z
theorem ne_lst3 {a b : Addr} {xs ys : List V} {ds es : List D} {A : Around} (I : Inv X pins σ H s) (hx : SqL X.K H a xs) (hy : SqL X.K H b ys) (h1 : IsL X.K H ds xs) (h2 : IsL X.K H es ys) (hu : A.units < cLine)
    (hk : kins ds es = true) {n : Nat} (hn : depL ds ≤ n)
    (ih : ∀ (x y : V) (d e : D) (u v : Value), dep d ≤ n → Is X.K H d x → Is X.K H e y → kin d e = true → RelV x u → RelV y v → SeqAt.EqAt A.in1 s u v (beqD d e)) : SeqAt.RcNeAt A s (.ref a) (.ref b) (!beqL ds es) := by
  obtain ⟨us, r1, t1, _⟩ := I.list hx
  obtain ⟨vs, r2, t2, _⟩ := I.list hy
  have e1 := r1.length
  have e2 := r2.length
  have l1 := h1.len
  have l2 := h2.len
  by_cases hl : us.length = vs.length
  · have z := SeqAt.RcNeAt.lists t1.isList t2.isList (by simpa using hl) hu (items_eq r1 r2 h1 h2 hk hn ih)
    have q : (List.range us.toArray.size).all (placeEq ds es) = beqL ds es := by
      simp only [List.size_toArray]
      rw [← e1, l1]
      exact beqL_all ds es (by omega)
    rw [q] at z
    exact z
  · rw [beqL_len (by omega)]
    exact SeqAt.RcNeAt.lists_lengths t1.isList t2.isList (by simpa using hl) hu
theorem pln_of_kin : ∀ (n : Nat) {d e : D}, dep d ≤ n → kin d e = true → d = e → pln d = true := by
  intro n
  induction n with
  | zero => intro d e hn hk he; subst he; cases d <;> simp [kin] at hk <;> first | (simp [pln]; done) | (rw [dep] at hn; omega)
  | succ n ih =>
    intro d e hn hk he
    subst he
    have go : ∀ {ds : List D}, depL ds ≤ n → kins ds ds = true → plnL ds = true := by
      intro ds
      induction ds with
      | nil => intro _ _; simp [plnL]
      | cons a as ih2 =>
        intro hd hks
        rw [depL] at hd
        rw [kins, Bool.and_eq_true] at hks
        rw [plnL, ih (by omega) hks.1 rfl, ih2 (by omega) hks.2]; rfl
    cases d <;> simp [kin] at hk <;> first
      | (simp [pln]; done)
      | (rw [dep] at hn; rw [pln]; exact go (by omega) hk)
theorem eq_is3 (I : Inv X pins σ H s) : ∀ (n : Nat) (A : Around), A.units + n < cLine → ∀ (x y : V) (d e : D) (u v : Value), dep d ≤ n → Is X.K H d x → Is X.K H e y → kin d e = true → RelV x u → RelV y v → SeqAt.EqAt A s u v (beqD d e) := by
  intro n
  induction n with
  | zero =>
    intro A hA x y d e u v hn hx hy hk rx ry
    rcases kin_inv hk with ⟨rfl, rfl⟩ | ⟨_, _, rfl, rfl⟩ | ⟨_, _, rfl, rfl⟩ | ⟨_, _, rfl, rfl⟩ | ⟨_, _, rfl, rfl, hk⟩ | ⟨_, _, rfl, rfl, hk⟩ <;> simp only [Is] at hx hy <;> first
      | (subst hx hy; cases rx; cases ry; rw [beqD]; exact SeqAt.EqAt.same _)
      | (subst hx hy; cases rx; cases ry; rw [beqD]; exact SeqAt.EqAt.bool_bool _ _)
      | (subst hx hy; obtain ⟨t, rfl⟩ := rx; obtain ⟨t', rfl⟩ := ry; rw [beqD]; exact SeqAt.EqAt.int_int _ _ _ _)
      | (subst hx hy; obtain ⟨t, rfl⟩ := rx; obtain ⟨t', rfl⟩ := ry; rw [beqD]; exact SeqAt.EqAt.str_str _ _ _ _)
      | (rw [dep] at hn; omega)
  | succ n ih =>
    intro A hA x y d e u v hn hx hy hk rx ry
    have hu : A.units < cLine := by omega
    have hA' : A.in1.units + n < cLine := by
      show A.units + 1 + n < cLine
      omega
    by_cases hxy : d = e ∧ x = y
    · obtain ⟨rfl, rfl⟩ := hxy
      have hp := pln_of_kin (n + 1) hn hk rfl
      rw [beqD_refl hp]
      cases d <;> simp [kin] at hk <;> simp only [Is] at hx <;> first
        | (subst hx; cases rx; cases ry; exact SeqAt.EqAt.same _)
        | (subst hx; obtain ⟨t, rfl⟩ := rx; obtain ⟨t', rfl⟩ := ry; have z := SeqAt.EqAt.int_int (A := A) (s := s) (by assumption) t (by assumption) t'; simpa using z)
        | (subst hx; rename_i i; obtain ⟨t, rfl⟩ := rx; obtain ⟨t', rfl⟩ := ry; have z := SeqAt.EqAt.int_int (A := A) (s := s) i t i t'; simpa using z)
        | (subst hx; rename_i i; obtain ⟨t, rfl⟩ := rx; obtain ⟨t', rfl⟩ := ry; have z := SeqAt.EqAt.str_str (A := A) (s := s) i t i t'; simpa using z)
        | (obtain ⟨a, xs, rfl, _, _⟩ := hx; cases rx; cases ry; exact SeqAt.EqAt.same _)
    · have key := fun (x y : V) (d e : D) (u v : Value) p q r s' t w => ih A.in1 hA' x y d e u v p q r s' t w
      have sm := fun (h : x = y) => Is.same I (n + 1) hn hk hx (h ▸ hy)
      rcases kin_inv hk with ⟨rfl, rfl⟩ | ⟨_, _, rfl, rfl⟩ | ⟨_, _, rfl, rfl⟩ | ⟨_, _, rfl, rfl⟩ | ⟨_, _, rfl, rfl, hk⟩ | ⟨_, _, rfl, rfl, hk⟩ <;> simp only [Is] at hx hy <;> first
        | (subst hx hy; cases rx; cases ry; rw [beqD]; exact SeqAt.EqAt.same _)
        | (subst hx hy; cases rx; cases ry; rw [beqD]; exact SeqAt.EqAt.bool_bool _ _)
        | (subst hx hy; obtain ⟨t, rfl⟩ := rx; obtain ⟨t', rfl⟩ := ry; rw [beqD]; exact SeqAt.EqAt.int_int _ _ _ _)
        | (subst hx hy; obtain ⟨t, rfl⟩ := rx; obtain ⟨t', rfl⟩ := ry; rw [beqD]; exact SeqAt.EqAt.str_str _ _ _ _)
        | (rw [dep] at hn
           obtain ⟨a, xs, rfl, s1, i1⟩ := hx
           obtain ⟨b, ys, rfl, s2, i2⟩ := hy
           cases rx; cases ry
           have hab : a ≠ b := fun z => hxy ⟨sm (by rw [z]), by rw [z]⟩
           rw [beqD]
           first
           | exact SeqAt.EqAt.of_refs hab (rc_tup3 I s1 s2 i1 i2 hu hk (by omega) key)
           | exact SeqAt.EqAt.of_refs hab (rc_lst3 I (.inl s1) (.inl s2) i1 i2 hu hk (by omega) key))
end
def rEq3 (K : PySem.W.Frag) (neg : Bool) : R2 := fun x y H Q => ∃ d e, Is K H d x ∧ Is K H e y ∧ kin d e = true ∧ dep d ≤ 60 ∧ Q (.bl (if neg then !beqD d e else beqD d e)) H
section
variable {X : Cx}
theorem op_eq3 (hu : X.A.units + 64 < cLine) : OpR X (compareOp .Eq) (rEq3 X.K false) := by
  intro pins s σ H x y v u Q I rx ry h
  obtain ⟨d, e, h1, h2, hk, hn, q⟩ := h
  have hu0 : X.A.units < cLine := by omega
  have key := fun (x y : V) (d e : D) (u v : Value) p q r s' t w => eq_is3 (s := s) I 60 X.A.in1 (by show X.A.units + 1 + 60 < cLine; omega) x y d e u v p q r s' t w
  have sc : scal x y = true → (decide (x = y)) = beqD d e → wpAny (model X.prog X.w) X.A (compareOp .Eq v u) (EP X pins σ Q) X.xe s := fun hs hb =>
    op_eq pins s σ H x y v u Q I rx ry ⟨hs, by rw [hb]; exact q⟩
  rcases kin_inv hk with ⟨rfl, rfl⟩ | ⟨_, _, rfl, rfl⟩ | ⟨_, _, rfl, rfl⟩ | ⟨_, _, rfl, rfl⟩ | ⟨_, _, rfl, rfl, hk⟩ | ⟨_, _, rfl, rfl, hk⟩ <;> simp only [Is] at h1 h2 <;> first
    | (subst h1 h2; exact sc rfl (by first | (simp [beqD]; done) | (rw [beqD, Bool.eq_iff_iff]; simp)))
    | (rw [dep] at hn
       obtain ⟨a, xs, rfl, s1, i1⟩ := h1
       obtain ⟨b, ys, rfl, s2, i2⟩ := h2
       cases rx; cases ry
       simp only [beqD, Bool.false_eq_true, if_false] at q
       first
       | exact rc_tup3 (A := X.A) I s1 s2 i1 i2 hu0 hk (by omega) key X.prog X.w X.xe _ ⟨.bl _, H, I, rfl, q⟩
       | exact rc_lst3 (A := X.A) I (.inl s1) (.inl s2) i1 i2 hu0 hk (by omega) key X.prog X.w X.xe _ ⟨.bl _, H, I, rfl, q⟩)
theorem op_ne3 (hu : X.A.units + 64 < cLine) : OpR X (compareOp .NotEq) (rEq3 X.K true) := by
  intro pins s σ H x y v u Q I rx ry h
  obtain ⟨d, e, h1, h2, hk, hn, q⟩ := h
  have hu0 : X.A.units < cLine := by omega
  have key := fun (x y : V) (d e : D) (u v : Value) p q r s' t w => eq_is3 (s := s) I 60 X.A.in1 (by show X.A.units + 1 + 60 < cLine; omega) x y d e u v p q r s' t w
  have sc : scal x y = true → (decide (x = y)) = beqD d e → wpAny (model X.prog X.w) X.A (compareOp .NotEq v u) (EP X pins σ Q) X.xe s := fun hs hb =>
    op_ne pins s σ H x y v u Q I rx ry ⟨hs, by rw [hb]; exact q⟩
  rcases kin_inv hk with ⟨rfl, rfl⟩ | ⟨_, _, rfl, rfl⟩ | ⟨_, _, rfl, rfl⟩ | ⟨_, _, rfl, rfl⟩ | ⟨_, _, rfl, rfl, hk⟩ | ⟨_, _, rfl, rfl, hk⟩ <;> simp only [Is] at h1 h2 <;> first
    | (subst h1 h2; exact sc rfl (by first | (simp [beqD]; done) | (rw [beqD, Bool.eq_iff_iff]; simp)))
    | (rw [dep] at hn
       obtain ⟨a, xs, rfl, s1, i1⟩ := h1
       obtain ⟨b, ys, rfl, s2, i2⟩ := h2
       cases rx; cases ry
       simp only [beqD, if_true] at q
       first
       | exact ne_tup3 (A := X.A) I s1 s2 i1 i2 hu0 hk (by omega) key X.prog X.w X.xe _ ⟨.bl _, H, I, rfl, q⟩
       | exact ne_lst3 (A := X.A) I (.inl s1) (.inl s2) i1 i2 hu0 hk (by omega) key X.prog X.w X.xe _ ⟨.bl _, H, I, rfl, q⟩)
end
end L3
set_option Elab.async false
set_option linter.all false
set_option maxRecDepth 100000
set_option maxHeartbeats 4000000
namespace L3
open PySem PySem.Spec PySem.Calls PyProof.Rows L2
def C3 (X : Cx) (Γ : List (Option D)) (a : Expr) (op : CmpOp) (b : Expr) (k : Bool) : Prop := ∃ (r : R2) (ta tb : TE), OpR X (compareOp op) r ∧ PE X a ta ∧ PE X b tb ∧
  ∀ (σ : L2.St) (H : Hp) (Q : VK), (∃ F, Same F H ∧ Sl X.K F Γ σ ∧ ∀ H' F', Pur F H F' H' → Q (.bl k) H') → tOp r ta tb σ H Q
section
variable {X : Cx} {Γ : List (Option D)} {a b c : Expr} {d d' : D} {pos : Pos} {op : CmpOp} {k : Bool}
theorem p_cmp (h : C3 X Γ a op b k) (hm : behindInMarks op b = false := by first | exact nomark _ | with_unfolding_all rfl) : P3 X Γ (.Compare a [op] [b] pos) (.bl k) := by
  obtain ⟨r, ta, tb, ho, ha, hb, q⟩ := h
  exact PE.of (pe_cmpR ho ha hb hm) fun σ H Q ⟨F, fh, sl, kk⟩ => q σ H Q ⟨F, fh, sl, fun H' F' p => kk _ H' F' p (i_bl _)⟩
theorem t_cmp (h : C3 X Γ a op b k) (hm : behindInMarks op b = false := by first | exact nomark _ | with_unfolding_all rfl) : PT3 X Γ (.Compare a [op] [b] pos) k := by
  obtain ⟨r, ta, tb, ho, ha, hb, q⟩ := h
  exact PT.of (pt_cmpR ho ha hb hm) fun σ H Q ⟨F, fh, sl, kk⟩ => q σ H _ ⟨F, fh, sl, fun H' F' p => ⟨k, rfl, kk H' F' p⟩⟩
theorem c_R {r : R2} (ho : OpR X (compareOp op) r) (ha : P3 X Γ a d) (hb : P3 X Γ b d') (hr : ∀ x y H F Q, Same F H → Is X.K F d x → Is X.K F d' y → Q (.bl k) H → r x y H Q) : C3 X Γ a op b k :=
  ⟨r, _, _, ho, ha, hb, fun σ H Q ⟨F, fh, sl, q⟩ => tP2 ⟨F, fh, sl, fun x y H2 F2 p i1 i2 => hr x y H2 F2 Q p.fh i1 i2 (q H2 F2 p)⟩⟩
variable {i j : Int}
theorem c_I {g : Int → Int → Bool} (ho : OpR X (compareOp op) (rI0 fun i j => .bl (g i j))) (ha : P3 X Γ a (.int i)) (hb : P3 X Γ b (.int j)) : C3 X Γ a op b (g i j) :=
  c_R ho ha hb fun x y H F Q fh i1 i2 q => ⟨i, j, isI i1, isI i2, q⟩
theorem c_lt (ha : P3 X Γ a (.int i)) (hb : P3 X Γ b (.int j)) : C3 X Γ a .Lt b (decide (i < j)) := c_I op_lt ha hb
theorem c_gt (ha : P3 X Γ a (.int i)) (hb : P3 X Γ b (.int j)) : C3 X Γ a .Gt b (decide (j < i)) := c_I op_gt ha hb
theorem c_eqI (ha : P3 X Γ a (.int i)) (hb : P3 X Γ b (.int j)) : C3 X Γ a .Eq b (decide (i = j)) :=
  c_R op_eq ha hb fun x y H F Q fh i1 i2 q => by
    cases isI i1; cases isI i2
    exact ⟨rfl, by simpa only [V.int.injEq] using q⟩
theorem c_neI (ha : P3 X Γ a (.int i)) (hb : P3 X Γ b (.int j)) : C3 X Γ a .NotEq b (!decide (i = j)) :=
  c_R op_ne ha hb fun x y H F Q fh i1 i2 q => by
    cases isI i1; cases isI i2
    exact ⟨rfl, by simpa only [V.int.injEq] using q⟩
theorem c_eqS {i j : Str} (ha : P3 X Γ a (.str i)) (hb : P3 X Γ b (.str j)) : C3 X Γ a .Eq b (decide (i = j)) :=
  c_R op_eq ha hb fun x y H F Q fh i1 i2 q => by
    cases isS i1; cases isS i2
    exact ⟨rfl, by simpa only [V.str.injEq] using q⟩
theorem c_neS {i j : Str} (ha : P3 X Γ a (.str i)) (hb : P3 X Γ b (.str j)) : C3 X Γ a .NotEq b (!decide (i = j)) :=
  c_R op_ne ha hb fun x y H F Q fh i1 i2 q => by
    cases isS i1; cases isS i2
    exact ⟨rfl, by simpa only [V.str.injEq] using q⟩
theorem c_eqB {i j : Bool} (ha : P3 X Γ a (.bl i)) (hb : P3 X Γ b (.bl j)) : C3 X Γ a .Eq b (decide (i = j)) :=
  c_R op_eq ha hb fun x y H F Q fh i1 i2 q => by
    cases isB i1; cases isB i2
    exact ⟨rfl, by simpa only [V.bl.injEq] using q⟩
theorem c_eq (hu : X.A.units + 64 < cLine) (ha : P3 X Γ a d) (hb : P3 X Γ b d') (hk : kin d d' = true) (hd : dep d ≤ 60) : C3 X Γ a .Eq b (beqD d d') :=
  c_R (op_eq3 hu) ha hb fun x y H F Q fh i1 i2 q => ⟨d, d', i1.mono fh, i2.mono fh, hk, hd, q⟩
theorem c_ne (hu : X.A.units + 64 < cLine) (ha : P3 X Γ a d) (hb : P3 X Γ b d') (hk : kin d d' = true) (hd : dep d ≤ 60) : C3 X Γ a .NotEq b (!beqD d d') :=
  c_R (op_ne3 hu) ha hb fun x y H F Q fh i1 i2 q => ⟨d, d', i1.mono fh, i2.mono fh, hk, hd, q⟩
theorem t_val {e : Expr} (h : P3 X Γ e (.bl k)) (he : ∀ whole, isTrue e X.env whole = (do let v ← whole; standAt e.pos; holding [v] (truthy v)) := by intro _; rfl) : PT3 X Γ e k :=
  PT.of (pt_val h he) fun σ H Q ⟨F, fh, sl, q⟩ => ⟨F, fh, sl, fun v H' F' p i => ⟨k, isB i, q H' F' p⟩⟩
theorem t_not (h : PT3 X Γ a k) : PT3 X Γ (.UnaryOp .Not a pos) (!k) := PT.of (pt_not h) fun σ H Q ⟨F, fh, sl, q⟩ => ⟨F, fh, sl, q⟩
def PW3 (X : Cx) (Γ : List (Option D)) (e : Expr) (k : Bool) : Prop := PW X e (tPT X.K Γ k)
theorem PW.of {X : Cx} {e : Expr} {t u : TT} (h : PW X e t) (i : ∀ σ H Q, u σ H Q → t σ H Q) : PW X e u := fun w pins s σ H Q I hq => h w pins s σ H Q I (i _ _ _ hq)
theorem PW3.t {e : Expr} (h : PW3 X Γ e k) : PT3 X Γ e k := PW.pt h
theorem tw_or1 (h : PT3 X Γ a k) : PW3 X Γ (.BoolOp .Or [a] pos) k := pw_or1 h
theorem pw_no {e : Expr} : PW X e fun _ _ _ => False := fun _ _ _ _ _ _ _ h => h.elim
theorem pe_no {e : Expr} : PE X e fun _ _ _ => False := fun _ _ _ _ _ _ h => h.elim
variable {k' : Bool} {rest : List Expr}
theorem tw_or (ha : PT3 X Γ a k) (hb : k = false → PW3 X Γ (.BoolOp .Or (b :: rest) pos) k') : PW3 X Γ (.BoolOp .Or (a :: b :: rest) pos) (k || k') := by
  cases k with
  | false => exact PW.of (pw_or ha (hb rfl)) fun σ H Q ⟨F, fh, sl, q⟩ => ⟨F, fh, sl, fun H' F' p => by dsimp only; rw [if_neg Bool.false_ne_true]; exact ⟨F', p.fh, sl.mono p.ff, fun H2 F2 p2 => q H2 F2 (p.trans p2)⟩⟩
  | true => exact PW.of (pw_or ha pw_no) fun σ H Q ⟨F, fh, sl, q⟩ => ⟨F, fh, sl, fun H' F' p => by dsimp only; rw [if_pos rfl]; exact q H' F' p⟩
theorem p_one {op : BoolOp} (h : P3 X Γ a d) : P3 X Γ (.BoolOp op [a] pos) d := pe_one h
theorem p_and (ha : P3 X Γ a (.bl k)) (hb : k = true → P3 X Γ (.BoolOp .And (b :: rest) pos) (.bl k')) : P3 X Γ (.BoolOp .And (a :: b :: rest) pos) (.bl (k && k')) := by
  cases k with
  | true => exact PE.of (pe_and ha (hb rfl)) fun σ H Q ⟨F, fh, sl, q⟩ => ⟨F, fh, sl, fun v H' F' p i => ⟨true, isB i, by rw [if_pos rfl]; exact ⟨F', p.fh, sl.mono p.ff, fun v2 H2 F2 p2 i2 => q v2 H2 F2 (p.trans p2) i2⟩⟩⟩
  | false => exact PE.of (pe_and ha pe_no) fun σ H Q ⟨F, fh, sl, q⟩ => ⟨F, fh, sl, fun v H' F' p i => ⟨false, isB i, by dsimp only; rw [if_neg Bool.false_ne_true]; exact q _ H' F' p (i_bl F')⟩⟩
theorem p_or (ha : P3 X Γ a (.bl k)) (hb : k = false → P3 X Γ (.BoolOp .Or (b :: rest) pos) (.bl k')) : P3 X Γ (.BoolOp .Or (a :: b :: rest) pos) (.bl (k || k')) := by
  cases k with
  | false => exact PE.of (pe_or ha (hb rfl)) fun σ H Q ⟨F, fh, sl, q⟩ => ⟨F, fh, sl, fun v H' F' p i => ⟨false, isB i, by rw [if_neg Bool.false_ne_true]; exact ⟨F', p.fh, sl.mono p.ff, fun v2 H2 F2 p2 i2 => q v2 H2 F2 (p.trans p2) i2⟩⟩⟩
  | true => exact PE.of (pe_or ha pe_no) fun σ H Q ⟨F, fh, sl, q⟩ => ⟨F, fh, sl, fun v H' F' p i => ⟨true, isB i, by dsimp only; rw [if_pos rfl]; exact q _ H' F' p (i_bl F')⟩⟩
end
def spP (K : PySem.W.Frag) (n : Nat) (C : List D → D → Prop) : Sp := fun vs H Q _ => ∃ ds d F, C ds d ∧ ds.length = n ∧ Same F H ∧ IsL K F ds vs ∧ ∀ v H' F', Pur F H F' H' → Is K F' d v → Q v H'
def spX (K : PySem.W.Frag) (n : Nat) (C : List D → Addr → Prop) : Sp := fun vs H _ E => ∃ ds c F, C ds c ∧ ds.length = n ∧ Same F H ∧ IsL K F ds vs ∧ ∀ H' F', Pur F H F' H' → E (.ref c) none H'
theorem spP.len {K : PySem.W.Frag} {n : Nat} {C : List D → D → Prop} {vs : List V} {H : Hp} {Q : VK} {E : XK} (h : spP K n C vs H Q E) : vs.length = n := by
  obtain ⟨ds, d, F, _, l, _, i, _⟩ := h
  rw [i.len, l]
theorem spX.len {K : PySem.W.Frag} {n : Nat} {C : List D → Addr → Prop} {vs : List V} {H : Hp} {Q : VK} {E : XK} (h : spX K n C vs H Q E) : vs.length = n := by
  obtain ⟨ds, d, F, _, l, _, i, _⟩ := h
  rw [i.len, l]
section
variable {X : Cx} {Γ : List (Option D)} {d : D} {ds : List D} {n k : Nat} {C : List D → D → Prop} {x : Str} {ps : List Str} {e : Expr} {es : List Expr} {p pos : Pos}
theorem p_call (o : OkF X.prog X.w X.K X.mg X.base CX0 k x ps (spP X.K n C)) (hr : Room k X.A) (hg : Gl X x) (ha : PL3 X Γ (e :: es) ds) (hC : C ds d) (hn : ds.length = n := by rfl) (hdb : (x == ("__debug__" : Str)) = false := by decide)
    (he : starEach (e :: es) X.env = (false, eval e X.env) :: starEach es X.env := by rfl) (hpl : (backTo pos (starEach es X.env)).any (·.1) = false := by rfl) : P3 X Γ (.Call (.Name x p) (e :: es) [] pos) d :=
  PE.of (pe_fn o hr hg ha hdb he hpl) fun σ H Q ⟨F, fh, sl, q⟩ => ⟨F, fh, sl, fun vs H' F' pu i => by
    dsimp only
    rw [List.append_nil]
    exact ⟨ds, d, F', hC, hn, pu.fh, i, fun v H2 F2 p2 i2 => q v H2 F2 (pu.trans p2) i2⟩⟩
theorem p_callB {id : String} {r : List V → Hp → VK → Prop} (hc : CallR X (.builtin id) r) (hg : Gl X x) (hm : X.mg x = none) (hv : bootBuiltins x = some (.builtin id)) (ha : PL3 X Γ (e :: es) ds)
    (hr : ∀ vs H F Q, Same F H → IsL X.K F ds vs → (∀ v H' F', Pur F H F' H' → Is X.K F' d v → Q v H') → r vs H Q) (hn : x ≠ "__name__" := by decide) (hdb : (x == ("__debug__" : Str)) = false := by decide)
    (he : starEach (e :: es) X.env = (false, eval e X.env) :: starEach es X.env := by rfl) (hpl : (backTo pos (starEach es X.env)).any (·.1) = false := by rfl) : P3 X Γ (.Call (.Name x p) (e :: es) [] pos) d :=
  PE.of (pe_callB hc hg hm hv ha hn hdb he hpl) fun σ H Q ⟨F, fh, sl, q⟩ => ⟨F, fh, sl, fun vs H' F' pu i => hr vs H' F' Q pu.fh i fun v H2 F2 p2 i2 => q v H2 F2 (pu.trans p2) i2⟩
end
end L3
set_option Elab.async false
set_option linter.all false
set_option maxRecDepth 100000
set_option maxHeartbeats 4000000
namespace L3
open PySem PySem.Spec PySem.Calls PyProof.Rows L2
theorem p_callTy {X : Cx} {Γ : List (Option D)} {d : D} {ds : List D} {x : Str} {e : Expr} {es : List Expr} {p pos : Pos} {T : String} {r : List V → Hp → VK → Prop} (hc : CallR X (.type T) r) (hg : Gl X x) (hm : X.mg x = none) (hv : bootBuiltins x = some (.type T)) (ha : PL3 X Γ (e :: es) ds)
    (hr : ∀ vs H F Q, Same F H → IsL X.K F ds vs → (∀ v H' F', Pur F H F' H' → Is X.K F' d v → Q v H') → r vs H Q) (hn : x ≠ "__name__" := by decide) (hdb : (x == ("__debug__" : Str)) = false := by decide)
    (he : starEach (e :: es) X.env = (false, eval e X.env) :: starEach es X.env := by rfl) (hpl : (backTo pos (starEach es X.env)).any (·.1) = false := by rfl) : P3 X Γ (.Call (.Name x p) (e :: es) [] pos) d :=
  PE.of (pe_callTy hc hg hm hv ha hn hdb he hpl) fun σ H Q ⟨F, fh, sl, q⟩ => ⟨F, fh, sl, fun vs H' F' pu i => hr vs H' F' Q pu.fh i fun v H2 F2 p2 i2 => q v H2 F2 (pu.trans p2) i2⟩
theorem isL1 {K : PySem.W.Frag} {F : Hp} {d : D} {vs : List V} (h : IsL K F [d] vs) : ∃ x, vs = [x] ∧ Is K F d x := by
  simp only [IsL] at h
  obtain ⟨x, r, rfl, i, rfl⟩ := h
  exact ⟨x, rfl, i⟩
theorem isL2 {K : PySem.W.Frag} {F : Hp} {d e : D} {vs : List V} (h : IsL K F [d, e] vs) : ∃ x y, vs = [x, y] ∧ Is K F d x ∧ Is K F e y := by
  simp only [IsL] at h
  obtain ⟨x, r, rfl, i, y, r2, rfl, i2, rfl⟩ := h
  exact ⟨x, y, rfl, i, i2⟩
theorem kin_symm : ∀ (n : Nat) {d e : D}, dep d ≤ n → kin d e = true → kin e d = true := by
  intro n
  induction n with
  | zero => intro d e hn hk; rcases kin_inv hk with ⟨rfl, rfl⟩ | ⟨_, _, rfl, rfl⟩ | ⟨_, _, rfl, rfl⟩ | ⟨_, _, rfl, rfl⟩ | ⟨_, _, rfl, rfl, hk⟩ | ⟨_, _, rfl, rfl, hk⟩ <;> rw [kin] <;> (rw [dep] at hn; omega)
  | succ n ih =>
    intro d e hn hk
    have go : ∀ {ds es : List D}, depL ds ≤ n → kins ds es = true → kins es ds = true := by
      intro ds
      induction ds with
      | nil => intro es _ _; cases es <;> simp [kins]
      | cons a as ih2 =>
        intro es hd hks
        cases es with
        | nil => simp [kins]
        | cons b bs =>
          rw [depL] at hd
          rw [kins, Bool.and_eq_true] at hks
          rw [kins, ih (by omega) hks.1, ih2 (by omega) hks.2]; rfl
    rcases kin_inv hk with ⟨rfl, rfl⟩ | ⟨_, _, rfl, rfl⟩ | ⟨_, _, rfl, rfl⟩ | ⟨_, _, rfl, rfl⟩ | ⟨_, _, rfl, rfl, hk⟩ | ⟨_, _, rfl, rfl, hk⟩ <;> rw [kin] <;> (rw [dep] at hn; exact go (by omega) hk)
def rCat3 (K : PySem.W.Frag) : R2 := fun x y H Q => ∃ l b xs zs, x = .ref l ∧ y = .ref b ∧ SqL K H l xs ∧ SqL K H b zs ∧ xs.length + zs.length ≤ sizeLine ∧ ∀ p, H p = none → Q (.ref p) (upd H p (.lst (xs ++ zs)))
section
variable {X : Cx}
theorem op_cat3 : OpR X (binaryOp .Add) (rCat3 X.K) := by
  intro pins s σ H x y v u Q I rx ry h
  obtain ⟨l, b, xs, zs, rfl, rfl, hH, hB, hz, q⟩ := h
  cases rx
  cases ry
  obtain ⟨its, r, ⟨o, n, e, c, dd, d⟩, z⟩ := I.list hH
  obtain ⟨its2, r2, ⟨o2, n2, e2, c2, dd2, d2⟩, z2⟩ := I.list hB
  obtain ⟨oc, od, odt, osl⟩ := o
  obtain ⟨oc2, od2, odt2, osl2⟩ := o2
  dsimp only at c dd d c2 dd2 d2
  subst c dd d c2 dd2 d2
  have hl := r.length
  have hl2 := r2.length
  have ea : its.toArray ++ its2.toArray = (its ++ its2).toArray := by simp
  refine concat_meets ⟨_, e, rfl⟩ ⟨_, e2, rfl⟩ noFill_list_add seq_list_add PySem.F.slot_list_add PySem.F.entry_list_add (PySem.F.args_list_add_2 _ _) (list_addW l b its.toArray its2.toArray n n2 none none osl osl2 (by rw [List.size_toArray, List.size_toArray]; omega)) ⟨e, e2, ?_⟩
  rw [ea]
  exact ⟨.ref _, _, I.lnew (t' := s.toks) (r.append r2) (by rw [List.length_append]; omega), rfl, q _ I.fresh⟩
theorem call_sum3 (hc : X.calm = true) : CallR X (.builtin "sum") (fun xs H Q => ∃ (a : Addr) (ns : List Int), xs = [.ref a] ∧ SqL X.K H a (ns.map V.int) ∧ Q (.int ns.sum) H) := by
  intro pins s σ H xs us Q I r h
  obtain ⟨a, ns, rfl, hl, q⟩ := h
  obtain ⟨u, rfl, rx⟩ := vals1 r
  cases rx
  obtain ⟨its, rv, p, _⟩ := I.list hl
  have hi : IntsAre its ns := intsAre_of rv
  obtain ⟨ys, hx⟩ := hi.allInts.items
  have hl' : s.heap.IsList a (intItems ys) := hx ▸ p.isList
  refine sum_intListG (I.ok.hd hc) hl' fun h' tk t' hk => ?_
  have e1 : ns = ys.toList.map (·.1) := by
    rw [← nums_intItems, ← hx]
    exact (show numsOf its.toArray.toList = ns from hi.numsOf).symm
  have e2 : preSum (numAt ys) ys.size = ns.sum := by
    rw [preSum_eq, List.take_of_length_le (by simp), e1]
  rw [e2]
  exact ⟨.int ns.sum, H, I.kept hk, ⟨_, rfl⟩, q⟩
def inD (x : D) (ds : List D) : Bool := ds.any fun y => beqD y x
def rIn3 (K : PySem.W.Frag) (neg : Bool) : R2 := fun x y H Q => ∃ p xs d ds, y = .ref p ∧ (SqL K H p xs ∨ SqT K H p xs) ∧ IsL K H ds xs ∧ Is K H d x ∧ (∀ e ∈ ds, kin e d = true ∧ dep e ≤ 60) ∧ Q (.bl (if neg then !inD d ds else inD d ds)) H
open Classical in
/-- an item's answer, read off its value -/
noncomputable def ansOf (K : PySem.W.Frag) (H : Hp) (d : D) (ds : List D) (u : Value) : Bool := decide (∃ (e : D) (x : V), e ∈ ds ∧ RelV x u ∧ Is K H e x ∧ beqD e d = true)
open Classical in
theorem ans_iff {K : PySem.W.Frag} {H : Hp} {d : D} {ds : List D} {u : Value} : ansOf K H d ds u = true ↔ ∃ (e : D) (x : V), e ∈ ds ∧ RelV x u ∧ Is K H e x ∧ beqD e d = true := by
  unfold ansOf
  exact decide_eq_true_iff
theorem ans_any {K : PySem.W.Frag} {H : Hp} {d : D} {es : List D} : ∀ {ds : List D} {xs : List V} {us : List Value}, (∀ e ∈ ds, e ∈ es) → IsL K H ds xs → Vals xs us → (∀ e e' x, e ∈ es → e' ∈ es → Is K H e x → Is K H e' x → beqD e d = beqD e' d) →
    us.any (ansOf K H d es) = ds.any fun y => beqD y d
  | [], _, _, _, h, r, _ => by simp only [IsL] at h; subst h; cases r; rfl
  | e :: ds, _, _, hm, h, r, hs => by
    simp only [IsL] at h
    obtain ⟨x, xs, rfl, i, h⟩ := h
    cases r with
    | cons r1 r =>
      rename_i u us
      rw [List.any_cons, List.any_cons, ans_any (fun e' q => hm e' (List.mem_cons_of_mem _ q)) h r hs]
      congr 1
      rw [Bool.eq_iff_iff, ans_iff]
      constructor
      · rintro ⟨e', x', m, r2, i2, b⟩
        cases r2.inj r1
        rw [← b]
        exact hs _ _ _ (hm e (by simp)) m i i2
      · intro b
        exact ⟨e, x, hm e (by simp), r1, i, b⟩
theorem in_core {pins : List (Addr × Obj)} {s : Shared} {σ : L2.St} {H : Hp} {x : V} {v : Value} {xs : List V} {d : D} {ds : List D} {its : List Value} (hu : X.A.units + 64 < cLine) (I : Inv X pins σ H s) (rx : RelV x v) (hi : IsL X.K H ds xs) (hd : Is X.K H d x)
    (hk : ∀ e ∈ ds, kin e d = true ∧ dep e ≤ 60) (r : Vals xs its) : (∀ w ∈ its, SeqAt.EqAt X.A.in1 s w v (ansOf X.K H d ds w)) ∧ its.toArray.any (ansOf X.K H d ds) = inD d ds := by
  have key := fun (x y : V) (d e : D) (u v : Value) p q r s' t w => eq_is3 (s := s) I 60 X.A.in1 (by show X.A.units + 1 + 60 < cLine; omega) x y d e u v p q r s' t w
  have one : ∀ e e' x', e ∈ ds → e' ∈ ds → Is X.K H e x' → Is X.K H e' x' → beqD e d = beqD e' d := fun e e' x' m m' i i' => by
    obtain ⟨k1, n1⟩ := hk e m
    obtain ⟨k2, n2⟩ := hk e' m'
    by_cases b : beqD e d = true
    · have ee := beqD_eq b
      subst ee
      have k3 : kin e e' = true := kin_symm 60 n2 k2
      rw [Is.same I 60 n1 k3 i i']
    · by_cases b' : beqD e' d = true
      · have ee := beqD_eq b'
        subst ee
        rw [Is.same I 60 n1 k1 i i']
      · rw [Bool.eq_false_iff.mpr b, Bool.eq_false_iff.mpr b']
  refine ⟨fun w hw => ?_, ?_⟩
  · obtain ⟨i, hl, rfl⟩ := List.getElem_of_mem hw
    have hx : i < xs.length := by rw [r.length]; exact hl
    have x1 : xs[i]? = some xs[i] := List.getElem?_eq_getElem hx
    obtain ⟨w', e1, r1⟩ := r.get x1
    rw [List.getElem?_eq_getElem hl] at e1
    cases e1
    obtain ⟨e, e2, i2⟩ := hi.get' x1
    have m := List.mem_of_getElem? e2
    have z := key _ _ _ _ _ _ (hk e m).2 i2 hd (hk e m).1 r1 rx
    have : ansOf X.K H d ds its[i] = beqD e d := by
      rw [Bool.eq_iff_iff, ans_iff]
      constructor
      · rintro ⟨e', x', m', r2, i3, b⟩
        cases r2.inj r1
        rw [← b]
        exact one _ _ _ m m' i2 i3
      · intro b
        exact ⟨e, _, m, r1, i2, b⟩
    rw [this]
    exact z
  · rw [show its.toArray.any (ansOf X.K H d ds) = its.any (ansOf X.K H d ds) by simp, ans_any (fun _ z => z) hi r one]
    rfl
theorem op_in3 (hu : X.A.units + 64 < cLine) : OpR X (compareOp .In) (rIn3 X.K false) := by
  intro pins s σ H x y v u Q I rx ry h
  obtain ⟨p, xs, d, ds, rfl, hq, hi, hd, hk, q⟩ := h
  cases ry
  rcases hq with hq | hq
  · obtain ⟨its, r, pl, hz⟩ := I.list hq
    obtain ⟨c1, c2⟩ := in_core hu I rx hi hd hk r
    refine SeqAt.in_listAt (ansOf X.K H d ds) pl.isList (fun w hw => c1 w (by simpa using hw)) ⟨.bl _, H, I, rfl, ?_⟩
    rw [c2]
    exact q
  · obtain ⟨its, r, pl, hz⟩ := I.tuple hq
    obtain ⟨c1, c2⟩ := in_core hu I rx hi hd hk r
    refine SeqAt.in_tupleAt (ansOf X.K H d ds) pl (fun w hw => c1 w (by simpa using hw)) ⟨.bl _, H, I, rfl, ?_⟩
    rw [c2]
    exact q
theorem op_notIn3 (hu : X.A.units + 64 < cLine) : OpR X (compareOp .NotIn) (rIn3 X.K true) := by
  intro pins s σ H x y v u Q I rx ry h
  obtain ⟨p, xs, d, ds, rfl, hq, hi, hd, hk, q⟩ := h
  cases ry
  rcases hq with hq | hq
  · obtain ⟨its, r, pl, hz⟩ := I.list hq
    obtain ⟨c1, c2⟩ := in_core hu I rx hi hd hk r
    refine SeqAt.notIn_listAt (ansOf X.K H d ds) pl.isList (fun w hw => c1 w (by simpa using hw)) ⟨.bl _, H, I, rfl, ?_⟩
    rw [c2]
    exact q
  · obtain ⟨its, r, pl, hz⟩ := I.tuple hq
    obtain ⟨c1, c2⟩ := in_core hu I rx hi hd hk r
    refine SeqAt.notIn_tupleAt (ansOf X.K H d ds) pl (fun w hw => c1 w (by simpa using hw)) ⟨.bl _, H, I, rfl, ?_⟩
    rw [c2]
    exact q
end
section
variable {X : Cx} {Γ : List (Option D)} {a b c : Expr} {d d' : D} {pos p : Pos} {ds es : List D}
theorem isT {K : PySem.W.Frag} {F : Hp} {v : V} (h : Is K F (.tup ds) v) : ∃ a xs, v = .ref a ∧ SqT K F a xs ∧ IsL K F ds xs := by simpa only [Is] using h
theorem isLstR {K : PySem.W.Frag} {F : Hp} {v : V} (h : Is K F (.lst ds) v) : ∃ a xs, v = .ref a ∧ Rd F a (.lst xs) ∧ IsL K F ds xs := by simpa only [Is] using h
theorem isLst {K : PySem.W.Frag} {F : Hp} {v : V} (h : Is K F (.lst ds) v) : ∃ a xs, v = .ref a ∧ SqL K F a xs ∧ IsL K F ds xs := by
  obtain ⟨a, xs, e, r, i⟩ := isLstR h
  exact ⟨a, xs, e, .inl r, i⟩
theorem Is.tupI {K : PySem.W.Frag} {F : Hp} {a : Addr} {xs : List V} (h : SqT K F a xs) (i : IsL K F ds xs) : Is K F (.tup ds) (.ref a) := by simp only [Is]; exact ⟨a, xs, rfl, h, i⟩
theorem Is.lstI {K : PySem.W.Frag} {F : Hp} {a : Addr} {xs : List V} (h : Rd F a (.lst xs)) (i : IsL K F ds xs) : Is K F (.lst ds) (.ref a) := by simp only [Is]; exact ⟨a, xs, rfl, h, i⟩
theorem pf_cat (ha : P3 X Γ a (.lst ds)) (hb : P3 X Γ b (.lst es)) (hz : ds.length + es.length ≤ sizeLine) : PF3 X Γ (.BinOp a .Add b pos) (ds ++ es) :=
  PE.of (pe_op op_cat3 ha hb) fun σ H Q ⟨F, fh, sl, k⟩ => tP2 ⟨F, fh, sl, fun x y H2 F2 p i1 i2 => by
    obtain ⟨l, xs, rfl, s1, j1⟩ := isLst i1
    obtain ⟨l2, ys, rfl, s2, j2⟩ := isLst i2
    exact ⟨l, l2, xs, ys, rfl, rfl, p.fh.seq s1, p.fh.seq s2, by rw [j1.len, j2.len]; exact hz, fun q hq => k q _ _ F2 (p.trans (Pur.layOwn p.fh hq)) (p.hh.free hq) (p.fh.free hq) upd_same (j1.append j2)⟩⟩
theorem p_cat (ha : P3 X Γ a (.lst ds)) (hb : P3 X Γ b (.lst es)) (hz : ds.length + es.length ≤ sizeLine) : P3 X Γ (.BinOp a .Add b pos) (.lst (ds ++ es)) := (pf_cat ha hb hz).p
theorem p_catS {x y : Str} (ha : P3 X Γ a (.str x)) (hb : P3 X Γ b (.str y)) (hz : x.length + y.length ≤ sizeLine) : P3 X Γ (.BinOp a .Add b pos) (.str (x ++ y)) :=
  p_opR op_add_str ha hb fun v w H F Q fh i1 i2 k => ⟨x, y, isS i1, isS i2, hz, k _ _ _ (Pur.refl fh) (i_str F)⟩
theorem p_lenL (hm : X.mg "len" = none) (hg : Gl X "len") (ha : P3 X Γ a (.lst ds)) (he : starEach [a] X.env = (false, eval a X.env) :: starEach [] X.env := by rfl) : P3 X Γ (.Call (.Name "len" p) [a] [] pos) (.int ds.length) :=
  p_callB call_len_seq hg hm PySem.boot_len (pl_cons ha pl_nil he) (fun vs H F Q fh i k => by
    obtain ⟨x, rfl, j0⟩ := isL1 i
    obtain ⟨l, xs, rfl, s1, j1⟩ := isLst j0
    exact ⟨l, xs, rfl, .inl (fh.seq s1), k _ _ _ (Pur.refl fh) (by rw [j1.len]; exact i_int F)⟩) (by decide) (by decide) he
theorem p_lenT (hm : X.mg "len" = none) (hg : Gl X "len") (ha : P3 X Γ a (.tup ds)) (he : starEach [a] X.env = (false, eval a X.env) :: starEach [] X.env := by rfl) : P3 X Γ (.Call (.Name "len" p) [a] [] pos) (.int ds.length) :=
  p_callB call_len_seq hg hm PySem.boot_len (pl_cons ha pl_nil he) (fun vs H F Q fh i k => by
    obtain ⟨x, rfl, j0⟩ := isL1 i
    obtain ⟨l, xs, rfl, s1, j1⟩ := isT j0
    exact ⟨l, xs, rfl, .inr (same_tup fh s1), k _ _ _ (Pur.refl fh) (by rw [j1.len]; exact i_int F)⟩) (by decide) (by decide) he
theorem p_lenI {ns : List Int} (hm : X.mg "len" = none) (hg : Gl X "len") (ha : P3 X Γ a (.scr ns)) (he : starEach [a] X.env = (false, eval a X.env) :: starEach [] X.env := by rfl) : P3 X Γ (.Call (.Name "len" p) [a] [] pos) (.int ns.length) :=
  p_callB call_len_seq hg hm PySem.boot_len (pl_cons ha pl_nil he) (fun vs H F Q fh i k => by
    obtain ⟨x, rfl, j0⟩ := isL1 i
    simp only [Is] at j0
    obtain ⟨l, rfl, s1⟩ := j0
    exact ⟨l, _, rfl, .inl (fh.seq s1), k _ _ _ (Pur.refl fh) (by rw [List.length_map]; exact i_int F)⟩) (by decide) (by decide) he
theorem p_ixI {ns : List Int} {i n : Int} (ha : P3 X Γ a (.scr ns)) (hb : P3 X Γ b (.int i)) (he : atI ns i = some n) (hs : PlainIx b := by exact fun _ _ => rfl) : P3 X Γ (.Subscript a b pos) (.int n) :=
  p_ixR ix_list ha hb (fun x y H F Q fh i1 i2 k => by
    simp only [Is] at i1 i2
    obtain ⟨l, rfl, h1⟩ := i1
    refine ⟨l, _, i, .int n, rfl, i2, fh.seq h1, ?_, k _ H F (Pur.refl fh) (i_int F)⟩
    unfold atI at he ⊢
    rw [List.length_map]
    cases q : ixN ns.length i with
    | none => rw [q] at he; cases he
    | some j =>
      rw [q] at he
      have he' : ns[j]? = some n := he
      show (ns.map V.int)[j]? = _
      rw [List.getElem?_map, he']
      rfl) hs
theorem p_lenS {x : Str} (hm : X.mg "len" = none) (hg : Gl X "len") (ha : P3 X Γ a (.str x)) (hz : x.length ≤ sizeLine) (he : starEach [a] X.env = (false, eval a X.env) :: starEach [] X.env := by rfl) : P3 X Γ (.Call (.Name "len" p) [a] [] pos) (.int x.length) :=
  p_callB call_len_str hg hm PySem.boot_len (pl_cons ha pl_nil he) (fun vs H F Q fh i k => by
    obtain ⟨v, rfl, j0⟩ := isL1 i
    exact ⟨x, by rw [isS j0], hz, k _ _ _ (Pur.refl fh) (i_int F)⟩) (by decide) (by decide) he
theorem bt_int : bootBuiltins "int" = some (.type "int") := by decide +kernel
theorem bt_str : bootBuiltins "str" = some (.type "str") := by decide +kernel
theorem bt_tuple : bootBuiltins "tuple" = some (.type "tuple") := by decide +kernel
theorem bt_list : bootBuiltins "list" = some (.type "list") := by decide +kernel
theorem bt_isinstance : bootBuiltins "isinstance" = some (.builtin "isinstance") := by decide +kernel
theorem bt_ValueError : bootBuiltins "ValueError" = some (.type "ValueError") := by decide +kernel
theorem bt_sum : bootBuiltins "sum" = some (.builtin "sum") := by decide +kernel
theorem pf_list (hm : X.mg "list" = none) (hg : Gl X "list") (ha : P3 X Γ a d) (hd : d = .lst ds ∨ d = .tup ds) (he : starEach [a] X.env = (false, eval a X.env) :: starEach [] X.env := by rfl) : PF3 X Γ (.Call (.Name "list" p) [a] [] pos) ds :=
  PE.of (pe_callTy call_list_of hg hm bt_list (pl_cons ha pl_nil he) (by decide) (by decide) he) fun σ H Q ⟨F, fh, sl, q⟩ => ⟨F, fh, sl, fun vs H' F' pu i => by
    obtain ⟨x, rfl, j0⟩ := isL1 i
    rcases hd with rfl | rfl
    · obtain ⟨l, xs, rfl, s1, j1⟩ := isLst j0
      exact ⟨l, xs, rfl, .inl (pu.fh.seq s1), fun l' hl => q l' _ _ F' (pu.trans (Pur.layOwn pu.fh hl)) (pu.hh.free hl) (pu.fh.free hl) upd_same j1⟩
    · obtain ⟨l, xs, rfl, s1, j1⟩ := isT j0
      exact ⟨l, xs, rfl, .inr (same_tup pu.fh s1), fun l' hl => q l' _ _ F' (pu.trans (Pur.layOwn pu.fh hl)) (pu.hh.free hl) (pu.fh.free hl) upd_same j1⟩⟩
theorem p_tupleOf (hm : X.mg "tuple" = none) (hg : Gl X "tuple") (ha : P3 X Γ a d) (hd : d = .lst ds ∨ d = .tup ds) (he : starEach [a] X.env = (false, eval a X.env) :: starEach [] X.env := by rfl) : P3 X Γ (.Call (.Name "tuple" p) [a] [] pos) (.tup ds) :=
  p_callTy call_tuple_of hg hm bt_tuple (pl_cons ha pl_nil he) (fun vs H F Q fh i k => by
    obtain ⟨x, rfl, j0⟩ := isL1 i
    rcases hd with rfl | rfl
    · obtain ⟨l, xs, rfl, s1, j1⟩ := isLst j0
      exact ⟨l, xs, rfl, .inl ⟨fh.seq s1, fun q hq => k _ _ _ (Pur.lay fh hq) (Is.tupI (.inl (.inl upd_same)) (j1.mono (Pur.lay fh hq).ff))⟩⟩
    · obtain ⟨l, xs, rfl, s1, j1⟩ := isT j0
      exact ⟨l, xs, rfl, .inr ⟨same_tup fh s1, k _ _ _ (Pur.refl fh) (Is.tupI s1 j1)⟩⟩) (by decide) (by decide) he
theorem p_sum {ns : List Int} (hc : X.calm = true) (hm : X.mg "sum" = none) (hg : Gl X "sum") (ha : P3 X Γ a (.lst (ns.map D.int))) (he : starEach [a] X.env = (false, eval a X.env) :: starEach [] X.env := by rfl) : P3 X Γ (.Call (.Name "sum" p) [a] [] pos) (.int ns.sum) :=
  p_callB (call_sum3 hc) hg hm bt_sum (pl_cons ha pl_nil he) (fun vs H F Q fh i k => by
    obtain ⟨x, rfl, j0⟩ := isL1 i
    obtain ⟨l, xs, rfl, s1, j1⟩ := isLst j0
    have e := IsL.of_ints j1
    subst e
    exact ⟨l, ns, rfl, fh.seq s1, k _ _ _ (Pur.refl fh) (i_int F)⟩) (by decide) (by decide) he
theorem c_in (hu : X.A.units + 64 < cLine) (ha : P3 X Γ a d) (hb : P3 X Γ b d') (hd : d' = .lst ds ∨ d' = .tup ds) (hk : ∀ e ∈ ds, kin e d = true ∧ dep e ≤ 60) : C3 X Γ a .In b (inD d ds) :=
  c_R (op_in3 hu) ha hb fun x y H F Q fh i1 i2 q => by
    rcases hd with rfl | rfl
    · obtain ⟨l, xs, rfl, s1, j1⟩ := isLst i2
      exact ⟨l, xs, d, ds, rfl, .inl (fh.seq s1), j1.mono fh, i1.mono fh, hk, q⟩
    · obtain ⟨l, xs, rfl, s1, j1⟩ := isT i2
      exact ⟨l, xs, d, ds, rfl, .inr (same_tup fh s1), j1.mono fh, i1.mono fh, hk, q⟩
theorem c_notIn (hu : X.A.units + 64 < cLine) (ha : P3 X Γ a d) (hb : P3 X Γ b d') (hd : d' = .lst ds ∨ d' = .tup ds) (hk : ∀ e ∈ ds, kin e d = true ∧ dep e ≤ 60) : C3 X Γ a .NotIn b (!inD d ds) :=
  c_R (op_notIn3 hu) ha hb fun x y H F Q fh i1 i2 q => by
    rcases hd with rfl | rfl
    · obtain ⟨l, xs, rfl, s1, j1⟩ := isLst i2
      exact ⟨l, xs, d, ds, rfl, .inl (fh.seq s1), j1.mono fh, i1.mono fh, hk, q⟩
    · obtain ⟨l, xs, rfl, s1, j1⟩ := isT i2
      exact ⟨l, xs, d, ds, rfl, .inr (same_tup fh s1), j1.mono fh, i1.mono fh, hk, q⟩
end
end L3
set_option Elab.async false
set_option linter.all false
set_option maxRecDepth 100000
set_option maxHeartbeats 4000000
namespace L3
open PySem PySem.Spec PySem.Calls PyProof.Rows L2
structure Bs where
  M : List Addr
  F : Hp
  H : Hp
abbrev Ow := Hp → HO → Prop
abbrev Om := List (Addr × Ow)
abbrev Ga := List (Option D)
def oLst (K : PySem.W.Frag) (ds : List D) : Ow := fun F o => ∃ xs, o = .lst xs ∧ IsL K F ds xs
structure Sat (K : PySem.W.Frag) (B : Bs) (Γ : Ga) (Ω : Om) (F : Hp) (σ : L2.St) (H : Hp) : Prop where
  f0 : Same B.F F
  fh : Same F H
  fr : ∀ b, F b ≠ none → B.F b ≠ none ∨ B.H b = none ∨ b ∈ B.M
  kp : ∀ b o, b ∉ B.M → B.H b = some o → H b = some o
  nd : (Ω.map (·.1)).Nodup
  od : ∀ p ∈ Ω, p.1 ∈ B.M ∨ B.H p.1 = none
  own : ∀ p ∈ Ω, F p.1 = none ∧ ∃ o, H p.1 = some o ∧ ∀ F', Same F F' → p.2 F' o
  sl : Sl K F Γ σ
section
variable {K : PySem.W.Frag} {B : Bs} {Γ Γ' : Ga} {Ω : Om} {F F' : Hp} {σ σ' : L2.St} {H H' : Hp}
theorem Sat.freeB (S : Sat K B Γ Ω F σ H) {b : Addr} (h : H b = none) : B.H b = none ∨ b ∈ B.M := by
  by_cases hb : b ∈ B.M
  · exact .inr hb
  · refine .inl ?_
    cases q : B.H b with
    | none => rfl
    | some o => rw [S.kp b o hb q] at h; cases h
theorem Sat.pur (S : Sat K B Γ Ω F σ H) (p : Pur F H F' H') : Sat K B Γ Ω F' σ H' where
  f0 := S.f0.trans p.ff
  fh := p.fh
  fr := fun b q => (p.new b q).elim (fun z => S.fr b z) fun z => (S.freeB z).elim (fun w => .inr (.inl w)) fun w => .inr (.inr w)
  kp := fun b o hb e => p.hh _ _ (S.kp b o hb e)
  nd := S.nd
  od := S.od
  own := fun q hq => by
    obtain ⟨h1, o, h2, h3⟩ := S.own q hq
    refine ⟨?_, o, p.hh _ _ h2, fun F2 e => h3 F2 (p.ff.trans e)⟩
    cases z : F' q.1 with
    | none => rfl
    | some u =>
      rcases p.new q.1 (by rw [z]; simp) with w | w
      · exact absurd h1 w
      · rw [h2] at w; cases w
  sl := S.sl.mono p.ff
theorem Sat.slots (S : Sat K B Γ Ω F σ H) (h : Sl K F Γ' σ') : Sat K B Γ' Ω F σ' H := ⟨S.f0, S.fh, S.fr, S.kp, S.nd, S.od, S.own, h⟩
theorem Sl.set {i : Nat} {d : D} {v : V} (h : Sl K F Γ σ) (hi : i < σ.length) (hv : Is K F d v) : Sl K F (Γ.set i (some d)) (σ.set i (some v)) := fun j e q => by
  by_cases hj : i = j
  · subst hj
    rw [List.getElem?_set] at q
    split at q
    · split at q
      · cases q
        exact ⟨v, by rw [List.getElem?_set]; simp [hi], hv⟩
      · cases q
    · contradiction
  · rw [List.getElem?_set_ne hj] at q
    obtain ⟨u, h1, h2⟩ := h j e q
    exact ⟨u, by rw [List.getElem?_set_ne hj]; exact h1, h2⟩
theorem Sl.nil : Sl K F [] σ := fun j e q => by simp at q
theorem Sat.toPur (S : Sat K B Γ Ω F σ H) (hM : B.M = []) : Pur B.F B.H F H := ⟨S.f0, S.fh, fun b o e => S.kp b o (by rw [hM]; simp) e, fun b q => (S.fr b q).elim .inl fun z => z.elim .inr fun w => by rw [hM] at w; cases w⟩
end
structure E3 where
  nx : Ga → Om → Prop
  rt : D → Om → Prop
  bk : Ga → Om → Prop := fun _ _ => False
  ct : Ga → Om → Prop := fun _ _ => False
def nX (K : PySem.W.Frag) (B : Bs) (F0 : Hp) (N : Ga → Om → Prop) : L2.St → Hp → Prop := fun σ H => ∃ Γ Ω F, Sat K B Γ Ω F σ H ∧ Same F0 F ∧ N Γ Ω
def E3.to (K : PySem.W.Frag) (B : Bs) (F0 : Hp) (E : E3) : Ends := ⟨nX K B F0 E.nx, fun v H => ∃ d Ω F, (∃ σ, Sat K B [] Ω F σ H) ∧ Same F0 F ∧ Is K F d v ∧ E.rt d Ω, nX K B F0 E.bk, nX K B F0 E.ct⟩
theorem nX.mono {K : PySem.W.Frag} {B : Bs} {F0 F1 : Hp} {N : Ga → Om → Prop} {σ : L2.St} {H : Hp} (e : Same F0 F1) (h : nX K B F1 N σ H) : nX K B F0 N σ H := by
  obtain ⟨Γ, Ω, F, S, f, n⟩ := h
  exact ⟨Γ, Ω, F, S, e.trans f, n⟩
def WS (X : Cx) (sts : List Stmt) : TS := fun D σ H => ∀ (pins : List (Addr × Obj)) (s : Shared), Inv X pins σ H s → wpAny (model X.prog X.w) X.A (execs sts X.env) (SP X pins D) X.xe s
def WE (X : Cx) (e : Expr) : TE := fun σ H Q => ∀ (pins : List (Addr × Obj)) (s : Shared), Inv X pins σ H s → wpAny (model X.prog X.w) X.A (eval e X.env) (EP X pins σ Q) X.xe s
def WT (X : Cx) (e : Expr) : TT := fun σ H Q => ∀ (pins : List (Addr × Obj)) (s : Shared), Inv X pins σ H s → wpAny (model X.prog X.w) X.A (isTrue e X.env (eval e X.env)) (TP X pins σ Q) X.xe s
theorem pss_w {X : Cx} {sts : List Stmt} : PSs X sts (WS X sts) := fun pins s σ H D I h => h pins s I
theorem pe_w {X : Cx} {e : Expr} : PE X e (WE X e) := fun pins s σ H Q I h => h pins s I
theorem pt_w {X : Cx} {e : Expr} : PT X e (WT X e) := fun pins s σ H Q I h => h pins s I
theorem PT3.wt {X : Cx} {Γ : Ga} {e : Expr} {k : Bool} (h : PT3 X Γ e k) {σ : L2.St} {H : Hp} {Q : Bool → Hp → Prop} (q : tPT X.K Γ k σ H Q) : WT X e σ H Q := fun pins s I => h pins s σ H Q I q
theorem P3.we {X : Cx} {Γ : Ga} {e : Expr} {d : D} (h : P3 X Γ e d) {σ : L2.St} {H : Hp} {Q : VK} (q : tP X.K Γ d σ H Q) : WE X e σ H Q := fun pins s I => h pins s σ H Q I q
def W3 (X : Cx) (B : Bs) (sts : List Stmt) (Γ : Ga) (Ω : Om) (E : E3) : Prop := ∀ F σ H, Sat X.K B Γ Ω F σ H → WS X sts (E.to X.K B F) σ H
section
variable {X : Cx} {B : Bs} {Γ : Ga} {Ω : Om} {E : E3} {rest body : List Stmt} {e c : Expr} {d : D} {pos pos' : Pos} {k : Bool}
theorem ends_mono {D D' : Ends} (hn : ∀ σ H, D.nx σ H → D'.nx σ H) (hr : ∀ v H, D.rt v H → D'.rt v H) (hb : ∀ σ H, D.bk σ H → D'.bk σ H) (hc : ∀ σ H, D.ct σ H → D'.ct σ H) {σ : L2.St} {H : Hp} (h : WS X body D σ H) : WS X body D' σ H := fun pins s I =>
  thn (h pins s I) fun f s' q => by
    cases f with
    | next => obtain ⟨σ', H', I', q⟩ := q; exact ⟨σ', H', I', hn _ _ q⟩
    | brk => obtain ⟨σ', H', I', q⟩ := q; exact ⟨σ', H', I', hb _ _ q⟩
    | cont => obtain ⟨σ', H', I', q⟩ := q; exact ⟨σ', H', I', hc _ _ q⟩
    | ret u => obtain ⟨v, σ', H', I', r, q⟩ := q; exact ⟨v, σ', H', I', r, hr _ _ q⟩
theorem to_mono {F0 F1 : Hp} (e : Same F0 F1) {σ : L2.St} {H : Hp} (h : WS X body (E.to X.K B F1) σ H) : WS X body (E.to X.K B F0) σ H :=
  ends_mono (D := E.to X.K B F1) (D' := E.to X.K B F0) (fun _ _ q => q.mono e) (fun v H ⟨d, Ω, F, S, f, i, r⟩ => ⟨d, Ω, F, S, e.trans f, i, r⟩) (fun _ _ q => q.mono e) (fun _ _ q => q.mono e) h
theorem w_nil (h : E.nx Γ Ω) : W3 X B [] Γ Ω E := fun F σ H S pins s I => pss_nil pins s σ H _ I ⟨Γ, Ω, F, S, Same.refl _, h⟩
theorem w_set {i : Nat} {x : Str} (hN : X.N.Nodup) (hi : X.N[i]? = some x) (hx : Loc X.env.scope x) (he : P3 X Γ e d) (h : W3 X B rest (Γ.set i (some d)) Ω E) (hs : swapsWith e (some (.Name x pos')) pos.line X.env = pure false := by rfl)
    (hf : X.fn x = true ∨ X.env.scope.names.lookup x = some .local := by first | exact .inl rfl | exact .inr rfl | assumption) : W3 X B (.Assign [.Name x pos'] e pos :: rest) Γ Ω E := fun F σ H S pins s I =>
  pss_cons (ps_set hN hi hx he hs hf) pss_w pins s σ H _ I ⟨F, S.fh, S.sl, fun v H' F' p i' => to_mono p.ff (h F' _ H' ((S.pur p).slots (Sl.set (S.sl.mono p.ff) (by rw [I.len]; exact (List.getElem?_eq_some_iff.mp hi).1) i')))⟩
theorem w_ret (he : P3 X Γ e d) (h : E.rt d Ω) : W3 X B (.Return (some e) pos :: rest) Γ Ω E := fun F σ H S pins s I =>
  pss_cons (ps_ret he) pss_never pins s σ H _ I ⟨F, S.fh, S.sl, fun v H' F' p i' => ⟨d, Ω, F', ⟨σ, (S.pur p).slots Sl.nil⟩, p.ff, i', h⟩⟩
theorem w_expr (he : P3 X Γ e d) (h : W3 X B rest Γ Ω E) (hs : swapsWith e none pos.line X.env = pure false := by rfl) : W3 X B (.Expr e pos :: rest) Γ Ω E := fun F σ H S pins s I =>
  pss_cons (ps_expr he hs) pss_w pins s σ H _ I ⟨F, S.fh, S.sl, fun v H' F' p i' => to_mono p.ff (h F' _ H' (S.pur p))⟩
abbrev E3.then (E : E3) (X : Cx) (B : Bs) (rest : List Stmt) : E3 := { E with nx := fun Γ' Ω' => W3 X B rest Γ' Ω' E }
theorem nx_rest {F : Hp} {σ : L2.St} {H : Hp} (h : nX X.K B F (fun Γ' Ω' => W3 X B rest Γ' Ω' E) σ H) : WS X rest (E.to X.K B F) σ H := by
  obtain ⟨Γ', Ω', F', S, f, w⟩ := h
  exact to_mono f (w F' σ H S)
theorem seq_rest {F : Hp} {σ : L2.St} {H : Hp} (h : WS X body ((E.then X B rest).to X.K B F) σ H) : WS X body { (E.to X.K B F) with nx := WS X rest (E.to X.K B F) } σ H :=
  ends_mono (D := (E.then X B rest).to X.K B F) (D' := { (E.to X.K B F) with nx := WS X rest (E.to X.K B F) }) (fun _ _ q => nx_rest q) (fun _ _ q => q) (fun _ _ q => q) (fun _ _ q => q) h
theorem w_if {a b : List Stmt} (hc : PT3 X Γ c k) (ht : k = true → W3 X B a Γ Ω (E.then X B rest)) (hf : k = false → W3 X B b Γ Ω (E.then X B rest)) : W3 X B (.If c a b pos :: rest) Γ Ω E := fun F σ H S pins s I => by
  cases k with
  | true => exact pss_cons (ps_if hc pss_w pss_never) pss_w pins s σ H _ I ⟨F, S.fh, S.sl, fun H' F' p => iteT (seq_rest (to_mono p.ff (ht rfl F' σ H' (S.pur p))))⟩
  | false => exact pss_cons (ps_if hc pss_never pss_w) pss_w pins s σ H _ I ⟨F, S.fh, S.sl, fun H' F' p => iteF (seq_rest (to_mono p.ff (hf rfl F' σ H' (S.pur p))))⟩
theorem w_while (hp : PassesOwn (model X.prog X.w) X.A X.env X.xe) (J : Ga → Om → Prop) (μ : Ga → Om → Nat) (h0 : J Γ Ω)
    (step : ∀ Γ Ω, J Γ Ω → ∃ k, PT3 X Γ c k ∧ (k = true → W3 X B body Γ Ω { E with nx := fun Γ' Ω' => J Γ' Ω' ∧ μ Γ' Ω' < μ Γ Ω, ct := fun Γ' Ω' => J Γ' Ω' ∧ μ Γ' Ω' < μ Γ Ω, bk := fun Γ' Ω' => W3 X B rest Γ' Ω' E }) ∧ (k = false → W3 X B rest Γ Ω E)) :
    W3 X B (.While c body [] pos :: rest) Γ Ω E := fun F σ H S pins s I => by
  refine pss_cons (ps_while hp pt_w pss_w) pss_w pins s σ H _ I ⟨fun m σ H => ∃ Γ Ω F1, Sat X.K B Γ Ω F1 σ H ∧ Same F F1 ∧ J Γ Ω ∧ μ Γ Ω = m, ⟨_, Γ, Ω, F, S, Same.refl _, h0, rfl⟩, ?_⟩
  rintro m σ H ⟨Γ, Ω, F1, S, f1, j, rfl⟩
  obtain ⟨k, hc, ht, hf⟩ := step Γ Ω j
  refine hc.wt ⟨F1, S.fh, S.sl, fun H' F' p => ?_⟩
  cases k with
  | true =>
    refine iteT ⟨nX X.K B F fun Γ' Ω' => J Γ' Ω' ∧ μ Γ' Ω' < μ Γ Ω, ?_, ends_mono (D := E3.to X.K B F { E with nx := fun Γ' Ω' => J Γ' Ω' ∧ μ Γ' Ω' < μ Γ Ω, ct := fun Γ' Ω' => J Γ' Ω' ∧ μ Γ' Ω' < μ Γ Ω, bk := fun Γ' Ω' => W3 X B rest Γ' Ω' E })
      (D' := { nx := nX X.K B F fun Γ' Ω' => J Γ' Ω' ∧ μ Γ' Ω' < μ Γ Ω, rt := (E.to X.K B F).rt, bk := WS X rest (E.to X.K B F), ct := nX X.K B F fun Γ' Ω' => J Γ' Ω' ∧ μ Γ' Ω' < μ Γ Ω }) (fun _ _ q => q) (fun _ _ q => q) (fun _ _ q => nx_rest q) (fun _ _ q => q) (to_mono (f1.trans p.ff) (ht rfl F' σ H' (S.pur p)))⟩
    rintro σ' H' ⟨Γ', Ω', F', S', f', j', l⟩
    exact ⟨_, l, Γ', Ω', F', S', f', j', rfl⟩
  | false => exact iteF (to_mono (f1.trans p.ff) (hf rfl F' σ H' (S.pur p)))
end
def G3 (X : Cx) (tg : Expr) (Γ : Ga) (d : D) (Γ' : Ga) : Prop := ∃ g, PG X tg g ∧ ∀ (F : Hp) (σ : L2.St) (H : Hp) (v : V) (Q : L2.St → Hp → Prop), Same F H → Is X.K F d v → Sl X.K F Γ σ → σ.length = X.N.length → (∀ σ', Sl X.K F Γ' σ' → σ'.length = X.N.length → Q σ' H) → g v σ H Q
def GL3 (X : Cx) (tg : List Expr) (Γ : Ga) (ds : List D) (Γ' : Ga) : Prop := ∃ g, PGs X tg g ∧ ∀ (F : Hp) (σ : L2.St) (H : Hp) (vs : List V) (Q : L2.St → Hp → Prop), Same F H → IsL X.K F ds vs → Sl X.K F Γ σ → σ.length = X.N.length → (∀ σ', Sl X.K F Γ' σ' → σ'.length = X.N.length → Q σ' H) → g vs σ H Q
section
variable {X : Cx} {Γ Γ1 Γ2 : Ga} {d : D} {ds : List D} {pos : Pos} {tg : Expr} {tgs : List Expr}
theorem g_name {i : Nat} {x : Str} (hN : X.N.Nodup) (hi : X.N[i]? = some x) (hx : Loc X.env.scope x) (hf : X.fn x = true ∨ X.env.scope.names.lookup x = some .local := by first | exact .inl rfl | exact .inr rfl | assumption) : G3 X (.Name x pos) Γ d (Γ.set i (some d)) :=
  ⟨_, pg_name hN hi hx hf, fun F σ H v Q fh iv sl hl q => q _ (sl.set (by rw [hl]; exact (List.getElem?_eq_some_iff.mp hi).1) iv) (by rw [List.length_set]; exact hl)⟩
theorem gl_nil : GL3 X [] Γ [] Γ := ⟨_, pgs_nil, fun F σ H vs Q fh iv sl hl q => by
  simp only [IsL] at iv
  exact ⟨iv, q σ sl hl⟩⟩
theorem gl_cons (h1 : G3 X tg Γ d Γ1) (h2 : GL3 X tgs Γ1 ds Γ2) (hs : ∀ {g : TG} {u : TGs}, PG X tg g → PGs X tgs u → PGs X (tg :: tgs) (gCons g u) := by exact fun a b => pgs_cons a b) : GL3 X (tg :: tgs) Γ (d :: ds) Γ2 := by
  obtain ⟨g, p1, q1⟩ := h1
  obtain ⟨u, p2, q2⟩ := h2
  refine ⟨_, hs p1 p2, fun F σ H vs Q fh iv sl hl q => ?_⟩
  simp only [IsL] at iv
  obtain ⟨x, r, rfl, i1, i2⟩ := iv
  exact ⟨x, r, rfl, q1 F σ H x _ fh i1 sl hl fun σ' sl' hl' => q2 F σ' H r _ fh i2 sl' hl' q⟩
theorem g_tup {k : Nat} (hc : X.calm = true) (h : GL3 X tgs Γ ds Γ1) (hn : (assignEach tgs X.env).length = ds.length := by rfl) (hst : (assignEach tgs X.env).findIdx? (·.1) = none := by rfl) : G3 X (.Tuple tgs k pos) Γ (.tup ds) Γ1 := by
  obtain ⟨g, p, q⟩ := h
  refine ⟨_, pg_tup hc p hn hst, fun F σ H v Q fh iv sl hl k => ?_⟩
  obtain ⟨a, xs, rfl, h1, h2⟩ := isT iv
  exact ⟨a, xs, rfl, same_tup fh h1, h2.len, q F σ H xs Q fh h2 sl hl k⟩
theorem w_asg {B : Bs} {Ω : Om} {E : E3} {rest : List Stmt} {e : Expr} {spos : Pos} (he : P3 X Γ e d) (hg : G3 X tg Γ d Γ1) (h : W3 X B rest Γ1 Ω E) (hs : swapsWithSole [tg] e spos.line X.env = pure false := by rfl) (hw : swappedStores [tg] e X.env = pure none := by rfl)
    (h1 : (assignEach [tg] X.env).map (·.2) = [assign tg X.env] := by rfl) : W3 X B (.Assign [tg] e spos :: rest) Γ Ω E := fun F σ H S pins s I => by
  obtain ⟨g, p, q⟩ := hg
  exact pss_cons (ps_asg he p hs hw h1) pss_w pins s σ H _ I ⟨F, S.fh, S.sl, fun v H' F' pu i' => q F' σ H' v _ pu.fh i' (S.sl.mono pu.ff) I.len fun σ' sl' _ => to_mono pu.ff (h F' σ' H' ((S.pur pu).slots sl'))⟩
end
def Walk3 (K : PySem.W.Frag) (F0 : Hp) (J : It) (ds : List D) : Prop := ∀ (i : Nat) (F H : Hp), Same F0 F → Same F H →
  (∀ d, ds[i]? = some d → J.go i H ∧ ∀ x H', J.yld i H x H' → ∃ F', Pur F H F' H' ∧ Is K F' d x) ∧ (ds.length ≤ i → J.stop i H)
def I3 (X : Cx) (Γ : Ga) (tg iter : Expr) (ds : List D) : Prop := PI X tg iter fun σ H R => ∃ F, Same F H ∧ Sl X.K F Γ σ ∧ ∀ J H' F', Pur F H F' H' → Walk3 X.K F' J ds → R J H'
theorem PI.of {X : Cx} {tg e : Expr} {t u : TI} (h : PI X tg e t) (i : ∀ σ H R, u σ H R → t σ H R) : PI X tg e u := fun pins s σ H Q I hq => h pins s σ H Q I (i _ _ _ hq)
section
variable {X : Cx} {Γ Γ1 : Ga} {d : D} {ds es : List D} {pos p : Pos} {tg a b : Expr}
theorem i_list (hl : P3 X Γ a (.lst ds)) : I3 X Γ tg a ds := PI.of (pi_list hl) fun σ H R ⟨F, fh, sl, q⟩ => ⟨F, fh, sl, fun v H' F' p i => by
  obtain ⟨l, xs, rfl, s1, j1⟩ := isLst i
  refine ⟨l, rfl, ⟨xs, p.fh.seq s1⟩, q _ H' F' p fun n F2 H2 e1 e2 => ⟨fun d w => ?_, fun w => ⟨xs, (e1.trans e2).seq s1, by rw [j1.len]; exact w⟩⟩⟩
  obtain ⟨x, hx, ix⟩ := j1.get w
  refine ⟨⟨xs, x, (e1.trans e2).seq s1, hx⟩, fun y H3 ⟨z, w'⟩ => ?_⟩
  subst z
  have := w' xs ((e1.trans e2).seq s1)
  rw [hx] at this
  cases this
  exact ⟨F2, Pur.refl e2, ix.mono e1⟩⟩
theorem i_tup (hl : P3 X Γ a (.tup ds)) : I3 X Γ tg a ds := PI.of (pi_tup hl) fun σ H R ⟨F, fh, sl, q⟩ => ⟨F, fh, sl, fun v H' F' p i => by
  obtain ⟨l, xs, rfl, s1, j1⟩ := isT i
  refine ⟨l, rfl, ⟨xs, same_tup p.fh s1⟩, q _ H' F' p fun n F2 H2 e1 e2 => ⟨fun d w => ?_, fun w => ⟨xs, same_tup (e1.trans e2) s1, by rw [j1.len]; exact w⟩⟩⟩
  obtain ⟨x, hx, ix⟩ := j1.get w
  refine ⟨⟨xs, x, same_tup (e1.trans e2) s1, hx⟩, fun y H3 ⟨z, w'⟩ => ?_⟩
  subst z
  have := w' xs (same_tup (e1.trans e2) s1)
  rw [hx] at this
  cases this
  exact ⟨F2, Pur.refl e2, ix.mono e1⟩⟩
def rngD (lo : Int) (n : Nat) : List D := (List.range n).map fun (j : Nat) => .int (lo + (j : Int))
theorem walk_rng {K : PySem.W.Frag} {F0 : Hp} {lo : Int} {n : Nat} : Walk3 K F0 (Itr lo n) (rngD lo n) := fun i F H e1 e2 =>
  ⟨fun d q => by
    unfold rngD at q
    rw [List.getElem?_map] at q
    have hi : i < n := by
      by_cases h : i < n
      · exact h
      · rw [List.getElem?_eq_none_iff.mpr (by simpa using h)] at q; cases q
    rw [List.getElem?_range hi] at q
    cases q
    refine ⟨hi, fun x H' ⟨z, w⟩ => ?_⟩
    subst z w
    exact ⟨F, Pur.refl e2, i_int F⟩, fun q => by
    unfold rngD at q
    have q' : n ≤ i := by simpa using q
    exact q'⟩
theorem i_range1 {j : Int} (hm : X.mg "range" = none) (hg : Gl X "range") (ha : P3 X Γ a (.int j)) (h1 : -(2 ^ 62) ≤ j) (h2 : j < 2 ^ 62) (hs : starEach [a] X.env = [(false, eval a X.env)] := by rfl) : I3 X Γ tg (.Call (.Name "range" p) [a] [] pos) (rngD 0 j.toNat) :=
  PI.of (pi_range1 hg hm (pl_cons ha pl_nil hs) hs) fun σ H R ⟨F, fh, sl, q⟩ => ⟨F, fh, sl, fun vs H' F' pu i => by
    obtain ⟨x, rfl, j0⟩ := isL1 i
    exact ⟨j, by rw [isI j0], h1, h2, q _ H' F' pu walk_rng⟩⟩
theorem w_for {B : Bs} {Ω : Om} {E : E3} {rest body : List Stmt} {iter : Expr} (hp : PassesOwn (model X.prog X.w) X.A X.env X.xe) (hc : X.calm = true) (hi : I3 X Γ tg iter ds) (J : Nat → Ga → Om → Prop) (h0 : J 0 Γ Ω)
    (step : ∀ i d Γ Ω, ds[i]? = some d → J i Γ Ω → ∃ Γ1, G3 X tg Γ d Γ1 ∧ W3 X B body Γ1 Ω { E with nx := J (i + 1), ct := J (i + 1), bk := fun Γ' Ω' => W3 X B rest Γ' Ω' E })
    (hd : ∀ Γ Ω, J ds.length Γ Ω → W3 X B rest Γ Ω E) (hs : ∀ x, foldedSetIterable iter X.env x = pure x := by intro _; rfl) : W3 X B (.For tg iter body [] pos :: rest) Γ Ω E := fun F σ H S pins s I => by
  have hgw : PG X tg (fun v σ H Q => ∀ (pins : List (Addr × Obj)) (s : Shared) (u : Value), Inv X pins σ H s → RelV v u → wpAny (model X.prog X.w) X.A (assign tg X.env u) (fun _ s' => ∃ σ' H', Inv X pins σ' H' s' ∧ Q σ' H') X.xe s) := fun pins s σ H v u Q I r h => h pins s u I r
  refine pss_cons (ps_for hp hc hi hgw pss_w hs) pss_w pins s σ H _ I ⟨F, S.fh, S.sl, fun Jt H1 F1 p w => ⟨fun i m σ H => i + m = ds.length ∧ nX X.K B F1 (J i) σ H, ⟨ds.length, by omega, Γ, Ω, F1, S.pur p, Same.refl _, h0⟩, ?_⟩⟩
  rintro i m σ H ⟨hm, Γ, Ω, F2, S, f1, j⟩
  obtain ⟨w1, w2⟩ := w i F2 H f1 S.fh
  cases z : ds[i]? with
  | none =>
    have hl : ds.length ≤ i := List.getElem?_eq_none_iff.mp z
    have e : i = ds.length := by omega
    subst e
    exact .inl ⟨w2 hl, to_mono (p.ff.trans f1) (hd Γ Ω j F2 σ H S)⟩
  | some d =>
    have hl : i < ds.length := (List.getElem?_eq_some_iff.mp z).1
    obtain ⟨go, y⟩ := w1 d z
    obtain ⟨Γ1, ⟨g, pg, gq⟩, wb⟩ := step i d Γ Ω z j
    refine .inr ⟨go, nX X.K B F1 (J (i + 1)), ?_, fun x H' hy pins s u I2 r => ?_⟩
    · rintro σ' H' n
      exact ⟨m - 1, by omega, by omega, n⟩
    · obtain ⟨F3, p2, ix⟩ := y x H' hy
      refine pg pins s σ H' x u _ I2 r (gq F3 σ H' x _ p2.fh ix (S.sl.mono p2.ff) I2.len fun σ' sl' _ => ?_)
      have f3 : Same F1 F3 := f1.trans p2.ff
      exact ends_mono (D := E3.to X.K B F3 { E with nx := J (i + 1), ct := J (i + 1), bk := fun Γ' Ω' => W3 X B rest Γ' Ω' E }) (D' := { nx := nX X.K B F1 (J (i + 1)), rt := (E.to X.K B F).rt, bk := WS X rest (E.to X.K B F), ct := nX X.K B F1 (J (i + 1)) })
        (fun _ _ q => q.mono f3) (fun v H ⟨d, Ω, F, S, f, i, r⟩ => ⟨d, Ω, F, S, (p.ff.trans f3).trans f, i, r⟩) (fun _ _ q => nx_rest (q.mono (p.ff.trans f3))) (fun _ _ q => q.mono f3) (wb F3 σ' H' ((S.pur p2).slots sl'))
end
end L3
set_option Elab.async false
set_option linter.all false
set_option maxRecDepth 100000
set_option maxHeartbeats 4000000
namespace L3
open PySem PySem.Spec PySem.Calls PyProof.Rows L2
def capG (nt : Nat) (caps : List Nat) (Γ : Ga) : Ga := List.replicate nt none ++ caps.map fun i => Γ.getD i none
def Sub (Γ Γ1 : Ga) : Prop := ∀ (i : Nat) (e : D), Γ[i]? = some (some e) → Γ1[i]? = some (some e)
theorem Sub.set {Γ : Ga} {i : Nat} {d : Option D} (h : Γ[i]? = some none) : Sub Γ (Γ.set i d) := fun j e q => by
  have : i ≠ j := fun z => by subst z; rw [h] at q; cases q
  rw [List.getElem?_set_ne this]
  exact q
theorem Sl.sub {K : PySem.W.Frag} {F : Hp} {Γ Γ1 : Ga} {σ : L2.St} (h : Sl K F Γ1 σ) (s : Sub Γ Γ1) : Sl K F Γ σ := fun i d q => h i d (s i d q)
theorem Sl.cap {K : PySem.W.Frag} {F : Hp} {Γ : Ga} {σ : L2.St} {nt : Nat} {caps : List Nat} (h : Sl K F Γ σ) : Sl K F (capG nt caps Γ) (capSt nt caps σ) := fun j d q => by
  unfold capG at q
  unfold capSt
  by_cases hj : j < nt
  · rw [List.getElem?_append_left (by simpa using hj), List.getElem?_replicate] at q
    split at q <;> cases q
  · rw [List.getElem?_append_right (by simpa using hj), List.length_replicate, List.getElem?_map] at q
    rw [List.getElem?_append_right (by simpa using hj), List.length_replicate, List.getElem?_map]
    cases ec : caps[j - nt]? with
    | none => rw [ec] at q; cases q
    | some ci =>
      rw [ec] at q
      have q' : Γ.getD ci none = some d := by simpa using q
      rw [List.getD_eq_getElem?_getD] at q'
      have e : Γ[ci]? = some (some d) := by
        cases z : Γ[ci]? with
        | none => rw [z] at q'; cases q'
        | some w => rw [z] at q'; exact congrArg some q'
      obtain ⟨v, h1, h2⟩ := h ci d e
      refine ⟨v, ?_, h2⟩
      simp [List.getD_eq_getElem?_getD, h1]
def PTs3 (X : Cx) (Γ : Ga) (ifs : List Expr) (k : Bool) : Prop := PTs X ifs (tPT X.K Γ k)
theorem ts_nil {X : Cx} {Γ : Ga} : PTs3 X Γ [] true := fun pins s σ H Q I ⟨F, fh, sl, q⟩ => pts_nil (c := ⟨0, s, H, []⟩) pins s σ H Q I (q H F (Pur.refl fh))
theorem ts_one {X : Cx} {Γ : Ga} {c : Expr} {k : Bool} (h : PT3 X Γ c k) : PTs3 X Γ [c] k := pts_one h
def gW (X : Cx) (tg : Expr) : TG := fun v σ H Q => ∀ (pins : List (Addr × Obj)) (s : Shared) (u : Value), Inv X pins σ H s → RelV v u → wpAny (model X.prog X.w) X.A (assign tg X.env u) (fun _ s' => ∃ σ' H', Inv X pins σ' H' s' ∧ Q σ' H') X.xe s
def WTs (X : Cx) (ifs : List Expr) : TT := fun σ H Q => ∀ (pins : List (Addr × Obj)) (s : Shared), Inv X pins σ H s →
  wpAny (model X.prog X.w) X.A (forIn ifs true fun c r => if r = true then do let ok ← isTrue c X.env (eval c X.env); pure (ForInStep.yield ok) else pure (ForInStep.yield r)) (TP X pins σ Q) X.xe s
theorem pg_w {X : Cx} {tg : Expr} : PG X tg (gW X tg) := fun pins s σ H v u Q I r h => h pins s u I r
theorem pts_w {X : Cx} {ifs : List Expr} : PTs X ifs (WTs X ifs) := fun pins s σ H Q I h => h pins s I
def CStep (X : Cx) (sc : Scope) (N : List Str) (tg elt : Expr) (ifs : List Expr) (G : Ga) (ds : List D) (pre : Nat → List D) : Prop := ∀ (c : CArg) (i : Nat) (d : D), ds[i]? = some d → ∃ Γ1, G3 (X.comp sc N c) tg G d Γ1 ∧ Sub G Γ1 ∧
  ((∃ e, PTs3 (X.comp sc N c) Γ1 ifs true ∧ P3 (X.comp sc N c) Γ1 elt e ∧ pre (i + 1) = pre i ++ [e]) ∨ (PTs3 (X.comp sc N c) Γ1 ifs false ∧ pre (i + 1) = pre i))
section
variable {X : Cx} {Γ : Ga} {tg iter elt : Expr} {ifs : List Expr} {sc SX : Scope} {N XN : List Str} {nt : Nat} {caps : List Nat} {pos : Pos} {ds : List D} {pre : Nat → List D}
theorem comp_read (hz : ∀ i, i ≤ ds.length → (pre i).length < sizeLine) (h0 : pre 0 = []) (step : CStep X sc N tg elt ifs (capG nt caps Γ) ds pre) {σ : L2.St} {H : Hp} {Q : VK}
    (h : ∃ F, Same F H ∧ Sl X.K F Γ σ ∧ ∀ p xs H' F', Pur F H F' H' → H p = none → F' p = none → H' p = some (.lst xs) → IsL X.K F' (pre ds.length) xs → Q (.ref p) H') :
    tComp nt caps (fun σ H R => ∃ F, Same F H ∧ Sl X.K F Γ σ ∧ ∀ J H' F', Pur F H F' H' → Walk3 X.K F' J ds → R J H') (fun c => gW (X.comp sc N c) tg) (fun c => WTs (X.comp sc N c) ifs) (fun c => WE (X.comp sc N c) elt) σ H Q := by
  obtain ⟨F, fh, sl, q⟩ := h
  refine ⟨F, fh, sl, fun J H1 F1 p1 wk D hD c => ⟨fun i m σ' ys H' => i + m = ds.length ∧ ∃ F', Pur F1 H1 F' H' ∧ F' D = none ∧ H' D = some (.lst ys) ∧ IsL X.K F' (pre i) ys ∧ Sl X.K F' (capG nt caps Γ) σ', ?_, ?_⟩⟩
  · exact ⟨ds.length, by omega, F1, Pur.layOwn p1.fh hD, p1.fh.free hD, upd_same, by rw [h0]; exact IsL.nil, Sl.cap (sl.mono p1.ff)⟩
  · rintro i m σ' ys H' ⟨hm, F', pu, fD, hH, il, sl'⟩
    refine ⟨hH, by rw [il.len]; exact hz i (by omega), ?_⟩
    obtain ⟨w1, w2⟩ := wk i F' H' pu.ff pu.fh
    cases z : ds[i]? with
    | none =>
      have hl : ds.length ≤ i := List.getElem?_eq_none_iff.mp z
      have e : i = ds.length := by omega
      subst e
      exact .inl ⟨w2 hl, q D ys H' F' (p1.trans pu) (p1.hh.free hD) fD hH il⟩
    | some d =>
      have hl : i < ds.length := (List.getElem?_eq_some_iff.mp z).1
      obtain ⟨go, y⟩ := w1 d z
      obtain ⟨Γ1, ⟨g, pg, gq⟩, sub, alt⟩ := step c i d z
      refine .inr ⟨go, fun x H2 hy pins s u I2 r => ?_⟩
      obtain ⟨F2, p2, ix⟩ := y x H2 hy
      have keepD : ∀ {F3 H3 F4 H4 : Hp}, Pur F3 H3 F4 H4 → F3 D = none → (∃ o, H3 D = some o) → F4 D = none := fun {F3 H3 F4 H4} pp f3 h3 => by
        cases zz : F4 D with
        | none => rfl
        | some o =>
          rcases pp.new D (by rw [zz]; simp) with w | w
          · exact absurd f3 w
          · obtain ⟨o', h3⟩ := h3; rw [h3] at w; cases w
      have fD2 := keepD p2 fD ⟨_, hH⟩
      have hH2 := p2.hh _ _ hH
      refine pg pins s σ' H2 x u _ I2 r (gq F2 σ' H2 x _ p2.fh ix (sl'.mono p2.ff) I2.len fun σ3 sl3 _ => ?_)
      rcases alt with ⟨e, ht, he, hpre⟩ | ⟨ht, hpre⟩
      · refine fun pins s I3 => ht pins s σ3 H2 _ I3 ⟨F2, p2.fh, sl3, fun H4 F4 p4 => iteT ?_⟩
        refine fun pins s I4 => he pins s σ3 H4 _ I4 ⟨F4, p4.fh, sl3.mono p4.ff, fun v H5 F5 p5 iv => ?_⟩
        have fD5 := keepD p5 (keepD p4 fD2 ⟨_, hH2⟩) ⟨_, p4.hh _ _ hH2⟩
        have hH5 := p5.hh _ _ (p4.hh _ _ hH2)
        have P5 := ((pu.trans p2).trans p4).trans p5
        refine ⟨ys, hH5, by rw [il.len]; exact hz i (by omega), m - 1, by omega, by omega, F5, ⟨P5.ff, fun b o w => ?_, fun b o w => ?_, P5.new⟩, fD5, upd_same, ?_, (sl3.mono (p4.ff.trans p5.ff)).sub sub⟩
        · rw [upd_ne (ne_of_none w fD5)]; exact P5.fh _ _ w
        · rw [upd_ne (ne_of_none w hD)]; exact P5.hh _ _ w
        · rw [hpre]
          exact (il.mono ((p2.ff.trans p4.ff).trans p5.ff)).append (IsL.cons iv IsL.nil)
      · refine fun pins s I3 => ht pins s σ3 H2 _ I3 ⟨F2, p2.fh, sl3, fun H4 F4 p4 => iteF ?_⟩
        have P4 := (pu.trans p2).trans p4
        refine ⟨ys, m - 1, by omega, by omega, F4, P4, keepD p4 fD2 ⟨_, hH2⟩, p4.hh _ _ hH2, ?_, (sl3.mono p4.ff).sub sub⟩
        rw [hpre]
        exact il.mono (p2.ff.trans p4.ff)
theorem pf_comp (S : CompOk SX sc XN N nt caps) (hi : I3 X Γ tg iter ds) (hz : ∀ i, i ≤ ds.length → (pre i).length < sizeLine) (h0 : pre 0 = []) (step : CStep X sc N tg elt ifs (capG nt caps Γ) ds pre) (hc : X.calm = true := by rfl) (hX : X.env.scope = SX := by rfl) (hN : X.N = XN := by rfl)
    (hs : ∀ x, foldedSetIterable iter X.env x = pure x := by intro _; rfl) : PF3 X Γ (.ListComp elt [⟨tg, iter, ifs, 0⟩] sc pos) (pre ds.length) :=
  PE.of (pe_comp S hi (fun c => pg_w) (fun c => pts_w) (fun c => pe_w) hc hX hN hs) fun σ H Q h => comp_read hz h0 step h
theorem w_setC {B : Bs} {Ω : Om} {E : E3} {rest : List Stmt} {y : Str} {py : Pos} {i : Nat} {spos : Pos} (S : CompOk SX sc XN N nt caps) (hnd : X.N.Nodup) (hix : X.N[i]? = some y) (hy : Loc X.env.scope y) (hi : I3 X Γ tg iter ds) (hz : ∀ i, i ≤ ds.length → (pre i).length < sizeLine) (h0 : pre 0 = [])
    (step : CStep X sc N tg elt ifs (capG nt caps Γ) ds pre) (h : W3 X B rest (Γ.set i (some (.lst (pre ds.length)))) Ω E)
    (hsw : swapsWith (.ListComp elt [⟨tg, iter, ifs, 0⟩] sc pos) (some (.Name y py)) spos.line X.env = pure true := by rfl) (hc : X.calm = true := by rfl) (hX : X.env.scope = SX := by rfl) (hN : X.N = XN := by rfl)
    (hs : ∀ x, foldedSetIterable iter X.env x = pure x := by intro _; rfl) (hf : X.fn y = true ∨ X.env.scope.names.lookup y = some .local := by first | exact .inl rfl | exact .inr rfl) : W3 X B (.Assign [.Name y py] (.ListComp elt [⟨tg, iter, ifs, 0⟩] sc pos) spos :: rest) Γ Ω E := fun F σ H S' pins s I => by
  refine pss_cons (ps_comp S hnd hix hy hi (fun c => pg_w) (fun c => pts_w) (fun c => pe_w) hsw hc hX hN hs hf) pss_w pins s σ H _ I (comp_read (Q := fun x H1 => gName i x σ H1 (WS X rest (E.to X.K B F))) hz h0 step ⟨F, S'.fh, S'.sl, fun p xs H' F' pu hp fp e il => ?_⟩)
  have w : Same F' (upd F' p (.lst xs)) := fun b u q => by rw [upd_ne (ne_of_none q fp)]; exact q
  have wf : Same (upd F' p (.lst xs)) H' := fun b u q => by
    by_cases hb : b = p
    · subst hb; rw [upd_same] at q; cases q; exact e
    · rw [upd_ne hb] at q; exact pu.fh _ _ q
  have w2 : Pur F H (upd F' p (.lst xs)) H' := by
    refine ⟨pu.ff.trans w, wf, pu.hh, fun b q => ?_⟩
    by_cases hb : b = p
    · subst hb; exact .inr hp
    · rw [upd_ne hb] at q; exact pu.new b q
  exact to_mono w2.ff (h _ _ H' ((S'.pur w2).slots (Sl.set (S'.sl.mono w2.ff) (by rw [I.len]; exact (List.getElem?_eq_some_iff.mp hix).1) (Is.lstI (.inl upd_same) (il.mono w)))))
end
def cutD (ds : List D) (lo hi : Option Int) : List D := (ds.drop (HT.sIx ds.length 0 lo)).take (HT.sIx ds.length ds.length hi - HT.sIx ds.length 0 lo)
theorem cut_is {K : PySem.W.Frag} {F : Hp} {ds : List D} {xs : List V} {lo hi : Option Int} (h : IsL K F ds xs) : IsL K F (cutD ds lo hi) (cutV xs lo hi) := by
  unfold cutD cutV
  rw [h.len]
  exact (h.drop _).take _
def PO3 (X : Cx) (Γ : Ga) (e : Option Expr) (i : Option Int) : Prop := PO X e fun σ H Q => ∃ F, Same F H ∧ Sl X.K F Γ σ ∧ ∀ H' F', Pur F H F' H' → Q i H'
section
variable {X : Cx} {Γ : Ga} {a e : Expr} {lo hi : Option Expr} {i j : Option Int} {d : D} {ds : List D} {pos p2 : Pos}
theorem PO.of {e : Option Expr} {t u : TO} (h : PO X e t) (i : ∀ σ H Q, u σ H Q → t σ H Q) : PO X e u := fun pins s σ H Q I hq => h pins s σ H Q I (i _ _ _ hq)
theorem o_none : PO3 X Γ none none := PO.of po_none fun σ H Q ⟨F, fh, sl, q⟩ => q H F (Pur.refl fh)
theorem o_some {n : Int} (h : P3 X Γ e (.int n)) : PO3 X Γ (some e) (some n) := PO.of (po_some h) fun σ H Q ⟨F, fh, sl, q⟩ => ⟨F, fh, sl, fun v H' F' p i => ⟨n, isI i, q H' F' p⟩⟩
theorem tSl3 {K : PySem.W.Frag} {σ : L2.St} {H : Hp} {R : V → Option Int → Option Int → Hp → VK → Prop} {Q : VK} (h : ∃ F, Same F H ∧ Sl K F Γ σ ∧ ∀ x H2 F2, Pur F H F2 H2 → Is K F2 d x → R x i j H2 Q) :
    tSl R (tP K Γ d) (fun σ H Q => ∃ F, Same F H ∧ Sl K F Γ σ ∧ ∀ H' F', Pur F H F' H' → Q i H') (fun σ H Q => ∃ F, Same F H ∧ Sl K F Γ σ ∧ ∀ H' F', Pur F H F' H' → Q j H') σ H Q := by
  obtain ⟨F, fh, sl, q⟩ := h
  exact ⟨F, fh, sl, fun x H1 F1 p1 i1 => ⟨F1, p1.fh, sl.mono p1.ff, fun H2 F2 p2 => ⟨F2, p2.fh, sl.mono (p1.ff.trans p2.ff), fun H3 F3 p3 => q x H3 F3 ((p1.trans p2).trans p3) (i1.mono (p2.ff.trans p3.ff))⟩⟩⟩
theorem pf_slice (ha : P3 X Γ a (.lst ds)) (hl : PO3 X Γ lo i) (hh : PO3 X Γ hi j) : PF3 X Γ (.Subscript a (.Slice lo hi none p2) pos) (cutD ds i j) :=
  PE.of (pe_slice sl_list ha hl hh) fun σ H Q ⟨F, fh, sl, q⟩ => tSl3 ⟨F, fh, sl, fun x H2 F2 p i1 => by
    obtain ⟨l, xs, rfl, s1, j1⟩ := isLst i1
    exact ⟨l, xs, rfl, p.fh.seq s1, fun b hb => q b _ _ F2 (p.trans (Pur.layOwn p.fh hb)) (p.hh.free hb) (p.fh.free hb) upd_same (cut_is j1)⟩⟩
end
end L3
set_option Elab.async false
set_option linter.all false
set_option maxRecDepth 100000
set_option maxHeartbeats 4000000
namespace L3
open PySem PySem.Spec PySem.Calls PyProof.Rows L2
def startG (N : List Str) (ds : List D) : Ga := ds.map some ++ List.replicate (N.length - ds.length) none
theorem Sl.start {K : PySem.W.Frag} {F : Hp} {N : List Str} {ds : List D} {vs : List V} (h : IsL K F ds vs) : Sl K F (startG N ds) (L2.start N vs) := fun i d q => by
  unfold startG at q
  unfold L2.start
  have hl := h.len
  by_cases hi : i < ds.length
  · rw [List.getElem?_append_left (by simpa using hi), List.getElem?_map] at q
    rw [List.getElem?_append_left (by rw [List.length_map, hl]; exact hi), List.getElem?_map]
    cases e : ds[i]? with
    | none => rw [e] at q; cases q
    | some d' =>
      rw [e] at q
      cases q
      obtain ⟨v, h1, h2⟩ := h.get e
      exact ⟨v, by rw [h1]; rfl, h2⟩
  · rw [List.getElem?_append_right (by simpa using hi), List.getElem?_replicate] at q
    split at q <;> cases q
theorem Sat.entry {K : PySem.W.Frag} {F H : Hp} {N : List Str} {ds : List D} {vs : List V} (fh : Same F H) (h : IsL K F ds vs) : Sat K ⟨[], F, H⟩ (startG N ds) [] F (L2.start N vs) H :=
  ⟨Same.refl _, fh, fun _ q => .inl q, fun _ _ _ e => e, List.nodup_nil, (fun _ q => absurd q (by simp)), (fun _ q => absurd q (by simp)), Sl.start h⟩
abbrev cx0 (P : Program) (w : World) (K : PySem.W.Frag) (mg : Str → Option Value) (base : Heap) (N : List Str) (x : Str) (st : Stmt) (f : Addr) (cdv : Value) (A : Around) (outer : List Env) (s : Shared) (H : Hp) (E : XK) : Cx := (cxOf CX0 P w K mg base N x (defScope st) f cdv A outer s H E).nox
abbrev cxX (P : Program) (w : World) (K : PySem.W.Frag) (mg : Str → Option Value) (base : Heap) (N : List Str) (x : Str) (st : Stmt) (f : Addr) (cdv : Value) (A : Around) (outer : List Env) (s : Shared) (H : Hp) (E : XK) : Cx := cxOf (CXo P w) P w K mg base N x (defScope st) f cdv A outer s H E
section
variable {P : Program} {w : World} {K : PySem.W.Frag} {mg : Str → Option Value} {base : Heap} {x : Str} {st : Stmt} {N ps : List Str} {k n : Nat}
theorem ok_pure {C : List D → D → Prop} (d : DefK K mg x st ps) (S : FnScope N ps (defScope st)) (hn : ps.length = n)
    (body : ∀ (f : Addr) (cdv : Value) (A : Around) (outer : List Env) (s : Shared) (H : Hp) (E : XK), Room k (A.deeper (envOfC x (defScope st) s.heap.objs.size f cdv)) → ∀ (ds : List D) (r : D), C ds r → ∀ B : Bs, B.M = [] →
      W3 (cx0 P w K mg base N x st f cdv A outer s H E) B (defBody st) (startG N ds) [] ⟨fun _ _ => r = .non, fun r' _ => r' = r, fun _ _ => False, fun _ _ => False⟩) : OkF P w K mg base CX0 (k + 1) x ps (spP K n C) := by
  refine d.ok S (fun vs H Q E h => h.len.trans hn.symm) fun f cdv A outer s H vs Q E hr h => ⟨_, pss_w, ?_⟩
  obtain ⟨ds, r, F, hC, hl, fh, il, q⟩ := h
  refine ends_mono (D := E3.to K ⟨[], F, H⟩ F ⟨fun _ _ => r = .non, fun r' _ => r' = r, fun _ _ => False, fun _ _ => False⟩) (D' := { nx := fun _ H' => Q .non H', rt := Q }) ?_ ?_ ?_ ?_ (body f cdv A outer s H E hr ds r hC ⟨[], F, H⟩ rfl F (L2.start N vs) H (Sat.entry fh il))
  · rintro σ' H' ⟨Γ', Ω', F', S', f', e⟩
    subst e
    exact q _ _ _ (S'.toPur rfl) (i_non F')
  · rintro v H' ⟨d', Ω', F', ⟨σ', S'⟩, f', i', e⟩
    subst e
    exact q _ _ _ (S'.toPur rfl) i'
  · rintro σ' H' ⟨_, _, _, _, _, z⟩
    exact z.elim
  · rintro σ' H' ⟨_, _, _, _, _, z⟩
    exact z.elim
theorem ok_raises {C : List D → Addr → Prop} (d : DefK K mg x st ps) (S : FnScope N ps (defScope st)) (hn : ps.length = n)
    (body : ∀ (f : Addr) (cdv : Value) (A : Around) (outer : List Env) (s : Shared) (H : Hp) (E : XK), Room k (A.deeper (envOfC x (defScope st) s.heap.objs.size f cdv)) → ∀ (ds : List D) (c : Addr), C ds c → ∀ B : Bs, B.M = [] → (∀ Γ Ω F' σ H', Sat K B Γ Ω F' σ H' → E (.ref c) none H') →
      W3 (cxX P w K mg base N x st f cdv A outer s H E) B (defBody st) (startG N ds) [] ⟨fun _ _ => False, fun _ _ => False, fun _ _ => False, fun _ _ => False⟩) : OkF P w K mg base (CXo P w) (k + 1) x ps (spX K n C) := by
  refine d.okX S (fun vs H Q E h => h.len.trans hn.symm) fun f cdv A outer s H vs Q E hr h => ⟨_, pss_w, ?_⟩
  obtain ⟨ds, c, F, hC, hl, fh, il, q⟩ := h
  refine ends_mono (D := E3.to K ⟨[], F, H⟩ F ⟨fun _ _ => False, fun _ _ => False, fun _ _ => False, fun _ _ => False⟩) (D' := { nx := fun _ H' => Q .non H', rt := Q }) ?_ ?_ ?_ ?_ (body f cdv A outer s H E hr ds c hC ⟨[], F, H⟩ rfl (fun Γ Ω F' σ H' S' => q H' F' (S'.toPur rfl)) F (L2.start N vs) H (Sat.entry fh il))
  · rintro σ' H' ⟨_, _, _, _, _, z⟩
    exact z.elim
  · rintro v H' ⟨_, _, _, _, _, _, z⟩
    exact z.elim
  · rintro σ' H' ⟨_, _, _, _, _, z⟩
    exact z.elim
  · rintro σ' H' ⟨_, _, _, _, _, z⟩
    exact z.elim
end
section
variable {X : Cx} {B : Bs} {Γ : Ga} {Ω : Om} {E : E3} {rest : List Stmt} {e : Expr} {es : List Expr} {ds : List D} {pos np cpos p : Pos} {Ex : XK} {C : Addr} {x : Str}
theorem w_raise (hc : X.calm = true) (c : ExCls X.K C) (hg : Gl X x) (hm : X.mg x = some (.ref C)) (ha : PL3 X Γ (e :: es) ds) (hE : Flies X Ex) (h : ∀ F σ H, Sat X.K B Γ Ω F σ H → Ex (.ref C) none H) (hz : ds.length ≤ sizeLine := by (simp only [List.length_cons, List.length_nil]; decide))
    (he : starEach (e :: es) X.env = (false, eval e X.env) :: starEach es X.env := by rfl) (hplain : (backTo cpos (starEach es X.env)).any (·.1) = false := by rfl) (hd : (x == ("__debug__" : Str)) = false := by decide) :
    W3 X B (.Raise (some (.Call (.Name x np) (e :: es) [] cpos)) none pos :: rest) Γ Ω E := fun F σ H S pins s I =>
  pss_cons (ps_raise hc c hg hm ha hE he hplain hd) pss_never pins s σ H _ I ⟨F, S.fh, S.sl, fun vs H' F' pu il => ⟨by rw [il.len]; exact hz, h F' σ H' (S.pur pu)⟩⟩
def R3 (X : Cx) (B : Bs) (Γ : Ga) (Ω : Om) (e : Expr) : Prop := ∀ F σ H, Sat X.K B Γ Ω F σ H → ∀ Q, WE X e σ H Q
theorem r_call {k n : Nat} {ps : List Str} {Cx' : List D → Addr → Prop} (o : OkF X.prog X.w X.K X.mg X.base (CXo X.prog X.w) k x ps (spX X.K n Cx')) (hx : Passes (CXo X.prog X.w) X Ex) (hr : Room k X.A) (hg : Gl X x) (ha : PL3 X Γ (e :: es) ds) (hC : Cx' ds C) (h : ∀ F σ H, Sat X.K B Γ Ω F σ H → Ex (.ref C) none H)
    (hn : ds.length = n := by rfl) (hdb : (x == ("__debug__" : Str)) = false := by decide) (he : starEach (e :: es) X.env = (false, eval e X.env) :: starEach es X.env := by rfl) (hpl : (backTo pos (starEach es X.env)).any (·.1) = false := by rfl) : R3 X B Γ Ω (.Call (.Name x p) (e :: es) [] pos) := fun F σ H S Q pins s I =>
  pe_fnX o hx hr hg ha hdb he hpl pins s σ H Q I ⟨F, S.fh, S.sl, fun vs H' F' pu il => by
    dsimp only
    rw [List.append_nil]
    exact ⟨ds, C, F', hC, hn, pu.fh, il, fun H2 F2 p2 => h F2 σ H2 (S.pur (pu.trans p2))⟩⟩
theorem w_setR {i : Nat} {pos' : Pos} (hN : X.N.Nodup) (hi : X.N[i]? = some x) (hx : Loc X.env.scope x) (h : R3 X B Γ Ω e) (hs : swapsWith e (some (.Name x pos')) pos.line X.env = pure false := by rfl)
    (hf : X.fn x = true ∨ X.env.scope.names.lookup x = some .local := by first | exact .inl rfl | exact .inr rfl | assumption) : W3 X B (.Assign [.Name x pos'] e pos :: rest) Γ Ω E := fun F σ H S pins s I =>
  pss_cons (ps_set hN hi hx pe_w hs hf) pss_never pins s σ H _ I (h F σ H S _)
theorem w_retR (h : R3 X B Γ Ω e) : W3 X B (.Return (some e) pos :: rest) Γ Ω E := fun F σ H S pins s I => pss_cons (ps_ret pe_w) pss_never pins s σ H _ I (h F σ H S _)
theorem w_exprR (h : R3 X B Γ Ω e) (hs : swapsWith e none pos.line X.env = pure false := by rfl) : W3 X B (.Expr e pos :: rest) Γ Ω E := fun F σ H S pins s I => pss_cons (ps_expr pe_w hs) pss_never pins s σ H _ I (h F σ H S _)
theorem w_try {k n i : Nat} {ps : List Str} {nm c f : Str} {Cc cls : Addr} {Cx' : List D → Addr → Prop} {b₀ : Stmt} {suite : List Stmt} {epos hpos : Pos} (O : Own X) (hc : X.calm = true) (o : OkF X.prog X.w X.K X.mg X.base (CXo X.prog X.w) k f ps (spX X.K n Cx')) (hr : Room k X.A) (hgf : Gl X f)
    (ha : PL3 X.nox Γ (e :: es) ds) (hC : Cx' ds cls) (hg : Gl X c) (hm : X.mg c = some (.ref Cc)) (hx : PySem.W.exmOne X.K (.ref cls) (.ref Cc) = some true) (hN : X.N.Nodup) (hi : X.N[i]? = some nm) (hl : X.env.kindOf nm = some .local)
    (hb : ∀ ea, W3 (X.marked ea) B (b₀ :: suite) (Γ.set i (some (.exc cls))) Ω ⟨fun _ _ => False, E.rt, fun _ _ => False, fun _ _ => False⟩)
    (hn : ds.length = n := by rfl) (hdb : (f == ("__debug__" : Str)) = false := by decide) (he : starEach (e :: es) X.env = (false, eval e X.env) :: starEach es X.env := by rfl) (hpl : (backTo cpos (starEach es X.env)).any (·.1) = false := by rfl)
    (hs : swapsWith (.Call (.Name f p) (e :: es) [] cpos) none epos.line X.env = pure false := by rfl) (hd : (c == ("__debug__" : Str)) = false := by decide) :
    W3 X B (.Try [.Expr (.Call (.Name f p) (e :: es) [] cpos) epos] [.ExceptHandler (some (.Name c np)) (some nm) (b₀ :: suite) hpos] [] [] pos :: rest) Γ Ω E := fun F σ H S pins s I => by
  refine pss_cons (ps_try (i := i) O hc (px_fn o hr hgf ha hdb he hpl) hg hm hN hi hl (fun ea => pss_w) hs hd) pss_never pins s σ H _ I ⟨F, S.fh, S.sl, fun vs H' F' pu il => ⟨ds, cls, F', hC, hn, pu.fh, il, fun H2 F2 p2 => ⟨hx, fun ea hea => ?_⟩⟩⟩
  have P2 := (pu.trans p2).trans (Pur.lay (o := xobj ea (.ref cls)) p2.fh hea)
  have S2 : Sat X.K B (Γ.set i (some (.exc cls))) Ω _ (σ.set i (some (.ref ea))) _ := (S.pur P2).slots (Sl.set (S.sl.mono P2.ff) (by rw [I.len]; exact (List.getElem?_eq_some_iff.mp hi).1) (d := .exc cls) (v := .ref ea) (by simp only [Is]; exact ⟨ea, rfl, upd_same⟩))
  refine ends_mono (D := E3.to X.K B _ ⟨fun _ _ => False, E.rt, fun _ _ => False, fun _ _ => False⟩) (D' := { nx := fun _ _ => False, rt := (E.to X.K B F).rt }) ?_ ?_ ?_ ?_ (to_mono P2.ff (hb ea _ _ _ S2))
  · rintro σ' H' ⟨_, _, _, _, _, z⟩
    exact z
  · rintro v H' q
    exact q
  · rintro σ' H' ⟨_, _, _, _, _, z⟩
    exact z
  · rintro σ' H' ⟨_, _, _, _, _, z⟩
    exact z
theorem p_isinX {a b : Expr} {cv : V} {k : Bool} (hm : X.mg "isinstance" = none) (hg : Gl X "isinstance") (ha : P3 X Γ a (.exc C)) (hb : P3 X Γ b (.raw cv)) (hk : XcK X.K C) (e : PySem.W.kitOne X.K (.ref C) (cV cv) = some k) (hc : cV cv ≠ .none)
    (he : starEach [a, b] X.env = (false, eval a X.env) :: starEach [b] X.env := by rfl) (he2 : starEach [b] X.env = (false, eval b X.env) :: starEach [] X.env := by rfl) (hpl : (backTo pos (starEach [b] X.env)).any (·.1) = false := by rfl) : P3 X Γ (.Call (.Name "isinstance" p) [a, b] [] pos) (.bl k) :=
  p_callB call_isin hg hm bt_isinstance (pl_cons ha (pl_cons hb pl_nil he2) he) (fun vs H F Q fh i q => by
    obtain ⟨x, y, rfl, i1, i2⟩ := isL2 i
    cases isR i2
    simp only [Is] at i1
    obtain ⟨ea, rfl, hea⟩ := i1
    exact ⟨.ref ea, _, k, rfl, .exc (fh _ _ hea) hk e hc, q _ _ _ (Pur.refl fh) (i_bl F)⟩) (by decide) (by decide) he hpl
end
section
variable {X : Cx} {B : Bs} {Γ : Ga} {Ω : Om} {E : E3} {rest : List Stmt} {e : Expr} {ds : List D} {pos pos' : Pos} {x : Str}
theorem w_own {i : Nat} (hN : X.N.Nodup) (hi : X.N[i]? = some x) (hx : Loc X.env.scope x) (he : PF3 X Γ e ds) (h : ∀ a, W3 X B rest (Γ.set i (some (.raw (.ref a)))) ((a, oLst X.K ds) :: Ω) E) (hs : swapsWith e (some (.Name x pos')) pos.line X.env = pure false := by rfl)
    (hf : X.fn x = true ∨ X.env.scope.names.lookup x = some .local := by first | exact .inl rfl | exact .inr rfl | assumption) : W3 X B (.Assign [.Name x pos'] e pos :: rest) Γ Ω E := fun F σ H S pins s I =>
  pss_cons (ps_set hN hi hx he hs hf) pss_w pins s σ H _ I ⟨F, S.fh, S.sl, fun a xs H' F' pu ha fa hH il => by
    have S1 := S.pur pu
    have nin : a ∉ Ω.map (·.1) := fun z => by
      obtain ⟨q, hq, e⟩ := List.mem_map.mp z
      obtain ⟨_, o, h2, _⟩ := S.own q hq
      rw [e, ha] at h2
      cases h2
    refine to_mono pu.ff (h a F' _ H' ⟨S1.f0, S1.fh, S1.fr, S1.kp, List.nodup_cons.mpr ⟨nin, S1.nd⟩, fun q hq => ?_, fun q hq => ?_, Sl.set (S.sl.mono pu.ff) (by rw [I.len]; exact (List.getElem?_eq_some_iff.mp hi).1) (i_raw F')⟩)
    · rcases List.mem_cons.mp hq with z | z
      · subst z
        exact (S.freeB ha).symm
      · exact S1.od q z
    · rcases List.mem_cons.mp hq with z | z
      · subst z
        exact ⟨fa, _, hH, fun F2 e => ⟨xs, rfl, il.mono e⟩⟩
      · exact S1.own q z⟩
theorem Sat.perm {K : PySem.W.Frag} {Ω' : Om} {F : Hp} {σ : L2.St} {H : Hp} (S : Sat K B Γ Ω F σ H) (p : Ω'.Perm Ω) : Sat K B Γ Ω' F σ H :=
  ⟨S.f0, S.fh, S.fr, S.kp, (p.map _).nodup_iff.mpr S.nd, fun q hq => S.od q (p.mem_iff.mp hq), fun q hq => S.own q (p.mem_iff.mp hq), S.sl⟩
theorem Sat.turn {K : PySem.W.Frag} {F : Hp} {σ : L2.St} {H : Hp} {a : Addr} {w w' : Ow} {o : HO} (S : Sat K B Γ ((a, w) :: Ω) F σ H) (h : ∀ F', Same F F' → w' F' o) : Sat K B Γ ((a, w') :: Ω) F σ (upd H a o) := by
  obtain ⟨fa, o0, ha, _⟩ := S.own (a, w) (by simp)
  have nin := (List.nodup_cons.mp S.nd).1
  refine ⟨S.f0, fun b u e => ?_, S.fr, fun b u hb e => ?_, S.nd, fun q hq => ?_, fun q hq => ?_, S.sl⟩
  · rw [upd_ne (ne_of_none e fa)]; exact S.fh _ _ e
  · by_cases z : b = a
    · subst z
      rcases S.od (b, w) (by simp) with y | y
      · exact absurd y hb
      · have y' : B.H b = none := y
        rw [y'] at e; cases e
    · rw [upd_ne z]; exact S.kp b u hb e
  · rcases List.mem_cons.mp hq with z | z
    · subst z; exact S.od (a, w) (by simp)
    · exact S.od q (List.mem_cons_of_mem _ z)
  · rcases List.mem_cons.mp hq with z | z
    · subst z
      exact ⟨fa, o, upd_same, h⟩
    · obtain ⟨h1, o', h2, h3⟩ := S.own q (List.mem_cons_of_mem _ z)
      have ne : q.1 ≠ a := fun e => nin (List.mem_map.mpr ⟨q, z, e⟩)
      exact ⟨h1, o', by rw [upd_ne ne]; exact h2, h3⟩
theorem w_append {i : Nat} {a : Addr} {d : D} {apos np ppos : Pos} (hi : X.N[i]? = some x) (hv : Vis X.env.scope x) (hΓ : Γ[i]? = some (some (.raw (.ref a)))) (he : P3 X Γ e d) (hz : ds.length < sizeLine) (h : W3 X B rest Γ ((a, oLst X.K (ds ++ [d])) :: Ω) E)
    (hs : ∀ {t : TE}, PE X (.Call (.Attribute (.Name x np) "append" apos) [e] [] ppos) t → PS X (.Expr (.Call (.Attribute (.Name x np) "append" apos) [e] [] ppos) pos) (tDrop t) := by exact fun h => ps_expr h)
    (hd : (x == ("__debug__" : Str)) = false := by decide) (hcd : (x == ("__classdict__" : Str)) = false := by decide) (hst : starEach [e] X.env = (false, eval e X.env) :: starEach [] X.env := by rfl)
    (hp : ∀ {to : TE} {ta : TA}, PE X (.Name x np) to → PA X [e] ta → PE X (.Call (.Attribute (.Name x np) "append" apos) [e] [] ppos) (tBM X.K "list" rAppend to ta) := by exact fun a b => pe_bm PySem.F.plainAttrs_list PySem.F.slot_list_append PySem.F.type_list_append mt_append a b) :
    W3 X B (.Expr (.Call (.Attribute (.Name x np) "append" apos) [e] [] ppos) pos :: rest) Γ ((a, oLst X.K ds) :: Ω) E := fun F σ H S pins s I => by
  obtain ⟨v, e1, e2⟩ := S.sl i _ hΓ
  cases isR e2
  obtain ⟨fa, o0, ha, ho⟩ := S.own (a, oLst X.K ds) (by simp)
  obtain ⟨xs, rfl, il⟩ := ho F (Same.refl _)
  refine pss_cons (hs (hp (pe_var hi hv hd hcd) (pl_cons he pl_nil hst))) pss_w pins s σ H _ I ⟨_, e1, .inl ⟨rfl, _, SqL.of ha⟩, F, S.fh, S.sl, fun vs H' F' pu iv => ?_⟩
  obtain ⟨y, rfl, iy⟩ := isL1 iv
  have S1 := S.pur pu
  refine ⟨a, xs, y, rfl, rfl, pu.hh _ _ ha, by rw [il.len]; exact hz, to_mono pu.ff (h F' σ _ (S1.turn fun F2 e2 => ⟨_, rfl, (il.mono (pu.ff.trans e2)).append (IsL.cons (iy.mono e2) IsL.nil)⟩))⟩
theorem w_freeze {sts : List Stmt} {i : Nat} {a : Addr} (hΓ : Γ[i]? = some (some (.raw (.ref a)))) (h : W3 X B sts (Γ.set i (some (.lst ds))) Ω E) : W3 X B sts Γ ((a, oLst X.K ds) :: Ω) E := fun F σ H S => by
  obtain ⟨v, e1, e2⟩ := S.sl i _ hΓ
  cases isR e2
  obtain ⟨fa, o0, ha, ho⟩ := S.own (a, oLst X.K ds) (by simp)
  obtain ⟨xs, rfl, il⟩ := ho F (Same.refl _)
  have nin := (List.nodup_cons.mp S.nd).1
  have w : Same F (upd F a (.lst xs)) := fun b u q => by rw [upd_ne (ne_of_none q fa)]; exact q
  refine to_mono w (h (upd F a (.lst xs)) σ H ⟨S.f0.trans w, fun b u q => ?_, fun b q => ?_, S.kp, (List.nodup_cons.mp S.nd).2, fun q hq => S.od q (List.mem_cons_of_mem _ hq), fun q hq => ?_, fun j d q => ?_⟩)
  · by_cases hb : b = a
    · subst hb; rw [upd_same] at q; cases q; exact ha
    · rw [upd_ne hb] at q; exact S.fh _ _ q
  · by_cases hb : b = a
    · subst hb
      exact (S.od (b, oLst X.K ds) (by simp)).elim (fun z => .inr (.inr z)) fun z => .inr (.inl z)
    · rw [upd_ne hb] at q; exact S.fr b q
  · obtain ⟨h1, o', h2, h3⟩ := S.own q (List.mem_cons_of_mem _ hq)
    have ne : q.1 ≠ a := fun e => nin (List.mem_map.mpr ⟨q, hq, e⟩)
    exact ⟨by rw [upd_ne ne]; exact h1, o', h2, fun F2 e => h3 F2 (w.trans e)⟩
  · by_cases hj : i = j
    · subst hj
      rw [List.getElem?_set] at q
      split at q
      · split at q
        · cases q
          exact ⟨_, e1, Is.lstI (.inl upd_same) (il.mono w)⟩
        · cases q
      · contradiction
    · rw [List.getElem?_set_ne hj] at q
      obtain ⟨u, h1, h2⟩ := S.sl j d q
      exact ⟨u, h1, h2.mono w⟩
end
end L3
set_option Elab.async false
set_option linter.all false
set_option maxRecDepth 100000
set_option maxHeartbeats 4000000
namespace L3
open PySem PySem.Spec PySem.Calls PyProof.Rows L2
def V3 (X : Cx) (B : Bs) (e : Expr) (Γ : Ga) (Ω : Om) (R : D → Om → Prop) : Prop := ∀ F σ H, Sat X.K B Γ Ω F σ H → WE X e σ H fun v H' => ∃ d Ω' F', Sat X.K B Γ Ω' F' σ H' ∧ Same F F' ∧ Is X.K F' d v ∧ R d Ω'
def VT3 (X : Cx) (B : Bs) (e : Expr) (Γ : Ga) (Ω : Om) (R : Bool → Om → Prop) : Prop := ∀ F σ H, Sat X.K B Γ Ω F σ H → WT X e σ H fun k H' => ∃ Ω' F', Sat X.K B Γ Ω' F' σ H' ∧ Same F F' ∧ R k Ω'
theorem WE.mono {X : Cx} {e : Expr} {σ : L2.St} {H : Hp} {Q Q' : VK} (h : WE X e σ H Q) (i : ∀ v H, Q v H → Q' v H) : WE X e σ H Q' := fun pins s I => thn (h pins s I) fun u s' ⟨v, H', I', r, q⟩ => ⟨v, H', I', r, i _ _ q⟩
theorem WT.mono {X : Cx} {e : Expr} {σ : L2.St} {H : Hp} {Q Q' : Bool → Hp → Prop} (h : WT X e σ H Q) (i : ∀ v H, Q v H → Q' v H) : WT X e σ H Q' := fun pins s I => thn (h pins s I) fun u s' ⟨H', I', q⟩ => ⟨H', I', i _ _ q⟩
section
variable {X : Cx} {B : Bs} {Γ : Ga} {Ω : Om} {E : E3} {rest body : List Stmt} {a b c e : Expr} {es : List Expr} {d : D} {ds : List D} {pos pos' p : Pos} {R : D → Om → Prop} {RL : List D → Om → Prop} {RT : Bool → Om → Prop} {k : Bool}
theorem v_pure (h : P3 X Γ e d) (r : R d Ω) : V3 X B e Γ Ω R := fun F σ H S => h.we ⟨F, S.fh, S.sl, fun v H' F' p i => ⟨d, Ω, F', S.pur p, p.ff, i, r⟩⟩
theorem vt_pure (h : PT3 X Γ e k) (r : RT k Ω) : VT3 X B e Γ Ω RT := fun F σ H S => h.wt ⟨F, S.fh, S.sl, fun H' F' p => ⟨Ω, F', S.pur p, p.ff, r⟩⟩
theorem w_setV {i : Nat} {x : Str} (hN : X.N.Nodup) (hi : X.N[i]? = some x) (hx : Loc X.env.scope x) (h : V3 X B e Γ Ω fun d Ω1 => W3 X B rest (Γ.set i (some d)) Ω1 E) (hs : swapsWith e (some (.Name x pos')) pos.line X.env = pure false := by rfl)
    (hf : X.fn x = true ∨ X.env.scope.names.lookup x = some .local := by first | exact .inl rfl | exact .inr rfl | assumption) : W3 X B (.Assign [.Name x pos'] e pos :: rest) Γ Ω E := fun F σ H S pins s I =>
  pss_cons (ps_set hN hi hx pe_w hs hf) pss_w pins s σ H _ I ((h F σ H S).mono fun v H1 ⟨d, Ω1, F1, S1, f1, i1, h1⟩ => to_mono f1 (h1 F1 _ H1 (S1.slots (Sl.set S1.sl (by rw [I.len]; exact (List.getElem?_eq_some_iff.mp hi).1) i1))))
theorem w_ifV {a b : List Stmt} (h : VT3 X B c Γ Ω fun k Ω1 => (k = true → W3 X B a Γ Ω1 (E.then X B rest)) ∧ (k = false → W3 X B b Γ Ω1 (E.then X B rest))) : W3 X B (.If c a b pos :: rest) Γ Ω E := fun F σ H S pins s I =>
  pss_cons (ps_if pt_w pss_w pss_w) pss_w pins s σ H _ I ((h F σ H S).mono fun k H1 ⟨Ω1, F1, S1, f1, h1, h2⟩ => by
    cases k with
    | true => exact iteT (seq_rest (to_mono f1 (h1 rfl F1 σ H1 S1)))
    | false => exact iteF (seq_rest (to_mono f1 (h2 rfl F1 σ H1 S1))))
end
end L3
set_option Elab.async false
set_option linter.all false
set_option maxRecDepth 100000
set_option maxHeartbeats 4000000
namespace L3
open PySem PySem.Spec PySem.Calls PyProof.Rows L2
theorem Sat.new {K : PySem.W.Frag} {B : Bs} {Γ : Ga} {Ω : Om} {F F' : Hp} {σ : L2.St} {H H' : Hp} {a : Addr} {w : Ow} {o : HO} (S : Sat K B Γ Ω F σ H) (pu : Pur F H F' H') (ha : H a = none) (fa : F' a = none) (hH : H' a = some o) (h : ∀ F2, Same F' F2 → w F2 o) : Sat K B Γ ((a, w) :: Ω) F' σ H' := by
  have S1 := S.pur pu
  have nin : a ∉ Ω.map (·.1) := fun z => by
    obtain ⟨q, hq, e⟩ := List.mem_map.mp z
    obtain ⟨_, o, h2, _⟩ := S.own q hq
    rw [e, ha] at h2
    cases h2
  refine ⟨S1.f0, S1.fh, S1.fr, S1.kp, List.nodup_cons.mpr ⟨nin, S1.nd⟩, fun q hq => ?_, fun q hq => ?_, S1.sl⟩
  · rcases List.mem_cons.mp hq with z | z
    · subst z
      exact (S.freeB ha).symm
    · exact S1.od q z
  · rcases List.mem_cons.mp hq with z | z
    · subst z
      exact ⟨fa, _, hH, h⟩
    · exact S1.own q z
section
variable {X : Cx} {B : Bs} {Γ : Ga} {Ω : Om} {E : E3} {rest body : List Stmt} {tg iter a b e : Expr} {es : List Expr} {d : D} {ds : List D} {pos pos' p : Pos} {R : D → Om → Prop} {RL : List D → Om → Prop}
theorem v_ixO (h : V3 X B a Γ Ω fun d Ω1 => ∃ l, d = .raw (.ref l) ∧ V3 X B b Γ Ω1 fun d' Ω2 => ∃ i ds e, d' = .int i ∧ (l, oLst X.K ds) ∈ Ω2 ∧ atI ds i = some e ∧ R e Ω2) (hs : PlainIx b := by exact fun _ _ => rfl) : V3 X B (.Subscript a b pos) Γ Ω R := fun F σ H S pins s I =>
  pe_ix ix_list pe_w pe_w hs pins s σ H _ I ((h F σ H S).mono fun x H1 ⟨d, Ω1, F1, S1, f1, i1, l, e1, h1⟩ => (h1 F1 σ H1 S1).mono fun y H2 ⟨d', Ω2, F2, S2, f2, i2, j, ds, e, e2, m, e3, q⟩ => by
    subst e1 e2
    cases isR i1
    obtain ⟨fa, o, ha, ho⟩ := S2.own _ m
    obtain ⟨xs, rfl, il⟩ := ho F2 (Same.refl _)
    obtain ⟨v, v1, v2⟩ := atI_is il e3
    exact ⟨l, xs, j, v, rfl, isI i2, SqL.of ha, v1, e, Ω2, F2, S2, f1.trans f2, v2, q⟩)
theorem w_setitem {o i : Expr} {spos tpos : Pos} (h : V3 X B e Γ Ω fun d Ω1 => V3 X B o Γ Ω1 fun dq Ω2 => ∃ l, dq = .raw (.ref l) ∧ V3 X B i Γ Ω2 fun di Ω3 => ∃ k j ds Ω4, di = .int k ∧ Ω3.Perm ((l, oLst X.K ds) :: Ω4) ∧ ixN ds.length k = some j ∧ W3 X B rest Γ ((l, oLst X.K (ds.set j d)) :: Ω4) E)
    (hs : swapsWithSole [.Subscript o i tpos] e spos.line X.env = pure false := by rfl) (hw : swappedStores [.Subscript o i tpos] e X.env = pure none := by rfl) (h1 : (assignEach [.Subscript o i tpos] X.env).map (·.2) = [assign (.Subscript o i tpos) X.env] := by rfl)
    (ha : ∀ v, assign (.Subscript o i tpos) X.env v = (do
      let ov ← holding [v] (eval o X.env)
      let iv ← holding [v, ov] (eval i X.env)
      standAt tpos
      holding [v, ov, iv] (setItem ov iv v)
      release [v, ov, iv] []) := by intro _; rfl) : W3 X B (.Assign [.Subscript o i tpos] e spos :: rest) Γ Ω E := fun F σ H S pins s I =>
  pss_cons (ps_asg pe_w (pg_sub pe_w pe_w set_list ha) hs hw h1) pss_w pins s σ H _ I ((h F σ H S).mono fun v H1 ⟨d, Ω1, F1, S1, f1, i1, h1⟩ => (h1 F1 σ H1 S1).mono fun y H2 ⟨dq, Ω2, F2, S2, f2, i2, l, e2, h2⟩ => (h2 F2 σ H2 S2).mono fun z H3 ⟨di, Ω3, F3, S3, f3, i3, k, j, ds, Ω4, e3, pm, hj, h3⟩ => by
    subst e2 e3
    cases isR i2
    have S4 := S3.perm pm.symm
    obtain ⟨fa, o', ha', ho⟩ := S4.own (l, oLst X.K ds) (by simp)
    obtain ⟨xs, rfl, il⟩ := ho F3 (Same.refl _)
    refine ⟨l, xs, k, j, rfl, isI i3, ha', by rw [il.len]; exact hj, ?_⟩
    exact to_mono (f1.trans (f2.trans f3)) (h3 F3 σ _ (S4.turn fun F5 e5 => ⟨_, rfl, (il.mono e5).set j (i1.mono (f2.trans (f3.trans e5)))⟩)))
end
end L3
set_option Elab.async false
set_option linter.all false
set_option maxRecDepth 100000
set_option maxHeartbeats 4000000
namespace L3
open PySem PySem.Spec PySem.Calls PyProof.Rows L2
def sh (q : Rat) : D := .tup [.int q.num, .int (q.den : Int)]
def Sz (n : Nat) (q : Rat) : Prop := q.num.natAbs < 2 ^ n ∧ q.den < 2 ^ n
theorem Sz.mono {m n : Nat} {q : Rat} (h : Sz m q) (l : m ≤ n) : Sz n q :=
  ⟨Nat.lt_of_lt_of_le h.1 (Nat.pow_le_pow_right (by decide) l), Nat.lt_of_lt_of_le h.2 (Nat.pow_le_pow_right (by decide) l)⟩
theorem bits_abs {x : Int} {n : Nat} (h : x.natAbs < 2 ^ n) : Builtin.Int.intBits x ≤ n := PySem.intBits_le_iff.mpr h
theorem mul_fit {a b : Int} {m n : Nat} (ha : a.natAbs < 2 ^ m) (hb : b.natAbs < 2 ^ n) (h : m + n ≤ 134217728) : IntMulOk a b := PySem.IntMulOk.of_le (bits_abs ha) (bits_abs hb) h
theorem pow_add' (m n : Nat) : 2 ^ (m + n) = 2 ^ m * 2 ^ n := Nat.pow_add 2 m n
theorem abs_mul_lt {a b : Int} {m n : Nat} (ha : a.natAbs < 2 ^ m) (hb : b.natAbs < 2 ^ n) : (a * b).natAbs < 2 ^ (m + n) := by
  rw [Int.natAbs_mul, pow_add']
  exact Nat.mul_lt_mul'' ha hb
theorem sz_divInt {t b : Int} {n : Nat} (hb : 0 < b) (h1 : t.natAbs < 2 ^ n) (h2 : b.natAbs < 2 ^ n) : Sz n (Rat.divInt t b) := by
  constructor
  · rw [Rat.num_divInt, Int.sign_eq_one_of_pos hb, Int.one_mul]
    refine Nat.lt_of_le_of_lt ?_ h1
    rw [Int.natAbs_ediv_of_dvd (Int.gcd_dvd_right _ _)]
    exact Nat.div_le_self _ _
  · rw [Rat.den_divInt, if_neg (by omega)]
    exact Nat.lt_of_le_of_lt (Nat.div_le_self _ _) h2
theorem sz_add {m n : Nat} {p q : Rat} (hp : Sz m p) (hq : Sz n q) : Sz (m + n + 1) (p + q) := by
  rw [← My.q_add]
  have a1 := abs_mul_lt hp.1 (show (q.den : Int).natAbs < 2 ^ n from hq.2)
  have a2 := abs_mul_lt hq.1 (show (p.den : Int).natAbs < 2 ^ m from hp.2)
  have a3 := abs_mul_lt (show (p.den : Int).natAbs < 2 ^ m from hp.2) (show (q.den : Int).natAbs < 2 ^ n from hq.2)
  rw [Nat.add_comm n m] at a2
  have e : 2 ^ (m + n + 1) = 2 ^ (m + n) + 2 ^ (m + n) := by rw [Nat.pow_succ]; omega
  refine sz_divInt (Int.mul_pos (My.den_pos' p) (My.den_pos' q)) ?_ ?_
  · rw [e]
    refine Nat.lt_of_le_of_lt (Int.natAbs_add_le _ _) ?_
    omega
  · rw [e]; omega
theorem sz_0 : Sz 1 0 := by constructor <;> decide
theorem q_nn_add {p q : Rat} (a : 0 ≤ p) (b : 0 ≤ q) : 0 ≤ p + q := by grind
abbrev big : Nat := 67108864
def C_gcd : List D → D → Prop := fun ds d => ∃ a b : Int, ds = [.int a, .int b] ∧ d = .int (My.G a b) ∧ 0 ≤ a ∧ 0 ≤ b
def C_share : List D → D → Prop := fun ds d => ∃ t b : Int, ds = [.int t, .int b] ∧ d = sh (Rat.divInt t b) ∧ 0 ≤ t ∧ 0 < b
def C_op (f : Rat → Rat → Rat) (C : Rat → Rat → Prop) : List D → D → Prop := fun ds d => ∃ (p q : Rat) (m n : Nat), ds = [sh p, sh q] ∧ d = sh (f p q) ∧ 0 ≤ p ∧ 0 ≤ q ∧ Sz m p ∧ Sz n q ∧ m ≤ big ∧ n ≤ big ∧ C p q
abbrev C_added := C_op (fun p q => p + q) fun _ _ => True
theorem den_abs {q : Rat} {n : Nat} (h : Sz n q) : ((q.den : Int)).natAbs < 2 ^ n := h.2
theorem sh_inj {p q : Rat} (h : sh p = sh q) : p = q := by
  unfold sh at h
  simp only [D.tup.injEq, List.cons.injEq, D.int.injEq, and_true] at h
  exact My.q_inj h.1 h.2
theorem beq_sh {p q : Rat} : beqD (sh p) (sh q) = decide (p = q) := by
  by_cases h : p = q
  · subst h
    rw [beqD_refl (by rfl)]
    simp
  · rw [beqD_ne (fun z => h (sh_inj z)), decide_eq_false h]
theorem kin_sh {p q : Rat} : kin (sh p) (sh q) = true := by rfl
theorem dep_sh {p : Rat} : dep (sh p) ≤ 60 := by
  show max 0 (max 0 0) + 1 ≤ 60
  decide
def GlobD (K : PySem.W.Frag) (mg : Str → Option Value) (x : Str) (d : D) : Prop := ∃ (v : V) (u : Value), mg x = some u ∧ RelV v u ∧ ∀ F, Is K F d v
theorem p_globD {X : Cx} {Γ : Ga} {x : Str} {d : D} {pos : Pos} (h : GlobD X.K X.mg x d) (hg : Gl X x) (hd : (x == ("__debug__" : Str)) = false := by decide) : P3 X Γ (.Name x pos) d := by
  obtain ⟨v, u, hm, r, i⟩ := h
  exact p_glob hg hm r i hd
theorem p_neg {X : Cx} {Γ : Ga} {a : Expr} {i : Int} {pos : Pos} (h : P3 X Γ a (.int i)) : P3 X Γ (.UnaryOp .USub a pos) (.int (-i)) :=
  PE.of (pe_un un_neg h) fun σ H Q ⟨F, fh, sl, q⟩ => ⟨F, fh, sl, fun v H' F' p iv => ⟨i, isI iv, q _ H' F' p (i_int F')⟩⟩
structure Zs (mg : Str → Option Value) : Prop where
  len : mg "len" = none
  range : mg "range" = none
  list : mg "list" = none
  tuple : mg "tuple" = none
  int : mg "int" = none
  bool : mg "bool" = none
  str : mg "str" = none
  dict : mg "dict" = none
  isinstance : mg "isinstance" = none
  sum : mg "sum" = none
  enumerate : mg "enumerate" = none
  zip : mg "zip" = none
  ValueError : mg "ValueError" = none
  all : mg "all" = none
  any : mg "any" = none
  reversed : mg "reversed" = none
theorem emod_in {a b : Int} (p : 0 < b) : 0 ≤ a % b ∧ a % b < b := ⟨Int.emod_nonneg a (by omega), Int.emod_lt_of_pos a p⟩
theorem G_turnE {a b : Int} (ha : 0 ≤ a) (hb : 0 < b) : My.G b (a % b) = My.G a b := by
  rw [← Int.fmod_eq_emod_of_nonneg a (Int.le_of_lt hb)]
  exact My.G_turn ha hb
theorem p_eq {X : Cx} {Γ : Ga} {e : Expr} {d d' : D} (h : P3 X Γ e d') (q : d' = d) : P3 X Γ e d := q ▸ h
def C_cell : List D → D → Prop := fun ds d => ∃ (ns : List Int) (k : Nat), ds = [.scr ns, .int (k : Int)] ∧ d = .int (ns.getD k 0)
theorem mul_small {a b : Int} (h : b.natAbs < 2 ^ 64) : IntMulOk a b := IntMulOk.of_right (bits_abs h)
end L3
set_option Elab.async false
set_option linter.all false
set_option maxRecDepth 100000
set_option maxHeartbeats 4000000
namespace L3
open PySem PySem.Spec PySem.Calls PyProof.Rows L2
def tb {α : Type} (n : Nat) (f : Nat → α) : List α := (List.range n).map f
theorem tb_get {α : Type} {n k : Nat} {f : Nat → α} (h : k < n) : (tb n f)[k]? = some (f k) := by
  unfold tb
  rw [List.getElem?_map, List.getElem?_range h]
  rfl
theorem tb_len {α : Type} {n : Nat} {f : Nat → α} : (tb n f).length = n := by unfold tb; simp
theorem tb_congr {α : Type} {n : Nat} {f g : Nat → α} (h : ∀ j, j < n → f j = g j) : tb n f = tb n g := List.map_congr_left fun j hj => h j (List.mem_range.mp hj)
theorem ixN_nat {n k : Nat} (h : k < n) : ixN n (k : Int) = some k := by
  unfold ixN
  rw [if_pos (by omega), if_pos (by omega), Int.toNat_natCast]
end L3
namespace L3
open PySem PySem.Spec PySem.Calls PyProof.Rows L2
theorem sIx_nat' {n d k : Nat} (h : k ≤ n) : HT.sIx n d (some (k : Int)) = k := by rw [HT.sIx_nat]; omega
theorem cut_take {ds : List D} {k : Nat} (h : k ≤ ds.length) : cutD ds none (some (k : Int)) = ds.take k := by
  unfold cutD
  rw [HT.sIx_none, sIx_nat' h]
  simp
theorem cut_drop {ds : List D} {k : Nat} (h : k ≤ ds.length) : cutD ds (some (k : Int)) none = ds.drop k := by
  unfold cutD
  rw [HT.sIx_none, sIx_nat' h, List.take_of_length_le (by rw [List.length_drop]; omega)]
end L3
namespace L3
open PySem PySem.Spec PySem.Calls PyProof.Rows L2
def nums (lo n : Nat) : List D := tb n fun j => .int ((lo + j : Nat) : Int)
theorem nums_len {lo n : Nat} : (nums lo n).length = n := tb_len
theorem nums_lt {lo n i : Nat} {d : D} (h : (nums lo n)[i]? = some d) : i < n ∧ d = .int ((lo + i : Nat) : Int) := by
  have hi := (List.getElem?_eq_some_iff.mp h).1
  rw [nums_len] at hi
  unfold nums at h
  rw [tb_get hi] at h
  cases h
  exact ⟨hi, rfl⟩
theorem rngD_nums {lo n : Nat} : rngD (lo : Int) n = nums lo n := by
  unfold rngD nums
  refine tb_congr fun j _ => ?_
  congr 1
theorem i_rangeN {X : Cx} {Γ : Ga} {tg a : Expr} {p pos : Pos} {j : Int} {n : Nat} (hm : X.mg "range" = none) (hg : Gl X "range") (ha : P3 X Γ a (.int j)) (hj : j = (n : Int)) (hn : n < 2 ^ 62) (hs : starEach [a] X.env = [(false, eval a X.env)] := by rfl) : I3 X Γ tg (.Call (.Name "range" p) [a] [] pos) (nums 0 n) := by
  subst hj
  have h := i_range1 (tg := tg) (p := p) (pos := pos) hm hg ha (by omega) (by omega) hs
  rw [Int.toNat_natCast, show (0 : Int) = ((0 : Nat) : Int) from rfl, rngD_nums] at h
  exact h
end L3
set_option Elab.async false
set_option linter.all false
set_option maxRecDepth 100000
set_option maxHeartbeats 4000000
namespace L3
open PySem PySem.Spec PySem.Calls PyProof.Rows L2
section
variable {X : Cx} {B : Bs} {Γ : Ga} {Ω : Om} {E : E3} {rest body : List Stmt} {tg iter a b e : Expr} {es : List Expr} {d : D} {ds : List D} {pos pos' p : Pos} {RL : List D → Om → Prop} {RT : Bool → Om → Prop}
end
section
variable {P : Program} {w : World} {K : PySem.W.Frag} {mg : Str → Option Value} {base : Heap} {x : Str} {st : Stmt} {N ps : List Str} {k n : Nat}
end
end L3
set_option Elab.async false
set_option linter.all false
set_option maxRecDepth 100000
set_option maxHeartbeats 4000000
namespace L3
open PySem PySem.Spec PySem.Calls PyProof.Rows L2
end L3
set_option Elab.async false
set_option linter.all false
set_option maxRecDepth 100000
set_option maxHeartbeats 4000000
namespace L3
open PySem PySem.Spec PySem.Calls PyProof.Rows L2
end L3
set_option Elab.async false
set_option linter.all false
set_option maxRecDepth 100000
set_option maxHeartbeats 4000000
namespace L3
open PySem PySem.Spec PySem.Calls PyProof.Rows L2
structure Errs (K : PySem.W.Frag) (mg : Str → Option Value) (S A1 A2 A3 A4 A5 R : Addr) (b1 b2 b3 b4 b5 : Bool) : Prop where
  mS : mg "ScoreError" = some (.ref S)
  m1 : mg "NoShare" = some (.ref A1)
  m2 : mg "NoEnd" = some (.ref A2)
  m3 : mg "NoGrammar" = some (.ref A3)
  m4 : mg "NoTree" = some (.ref A4)
  m5 : mg "NoText" = some (.ref A5)
  xS : PySem.W.exmOne K (.ref R) (.ref S) = some true
  xR : PySem.W.exmOne K (.ref R) (.ref R) = some true
  kS : PySem.W.kitOne K (.ref R) (.ref S) = some true
  kV : PySem.W.kitOne K (.ref R) (.type "ValueError") = some true
  k1 : PySem.W.kitOne K (.ref R) (.ref A1) = some b1
  k2 : PySem.W.kitOne K (.ref R) (.ref A2) = some b2
  k3 : PySem.W.kitOne K (.ref R) (.ref A3) = some b3
  k4 : PySem.W.kitOne K (.ref R) (.ref A4) = some b4
  k5 : PySem.W.kitOne K (.ref R) (.ref A5) = some b5
  c : ExCls K R
  q : XcK K R
theorem errs_mk {K : PySem.W.Frag} {h : Heap} {mg : Str → Option Value} (X : K.In h) (G : h.Ns mainGlobals mg) {S A1 A2 A3 A4 A5 R : Addr} {b1 b2 b3 b4 b5 : Bool} {oc : Value} {od : Option Addr} {cd : ClassData} {osl : Array (Option Value)}
    (aS : PySem.W.nsIn K mainGlobals "ScoreError" = some (some (.ref S))) (a1 : PySem.W.nsIn K mainGlobals "NoShare" = some (some (.ref A1))) (a2 : PySem.W.nsIn K mainGlobals "NoEnd" = some (some (.ref A2)))
    (a3 : PySem.W.nsIn K mainGlobals "NoGrammar" = some (some (.ref A3))) (a4 : PySem.W.nsIn K mainGlobals "NoTree" = some (some (.ref A4))) (a5 : PySem.W.nsIn K mainGlobals "NoText" = some (some (.ref A5)))
    (c1 : PySem.W.excIn K R [.type "ValueError", .type "Exception", .type "BaseException", .type "object"] "ValueError.__new__" = true)
    (g1 : PySem.W.findIn K (.ref R) "__getattribute__" = some (some (.builtin "BaseException.__getattribute__"))) (g2 : PySem.W.findIn K (.ref R) "__getattr__" = some none)
    (g3 : PySem.W.findIn K (.ref R) "__class__" = some (some (.builtin "object.__class__"))) (g4 : PySem.W.specialIn K (.builtin "object.__class__") "__get__" = some (some (.builtin "getset_descriptor.__get__")))
    (g5 : PySem.W.takesIn K (.builtin "object.__class__") = some true) (g6 : PySem.W.mroIn K R (.type "object") = some true) (g7 : PySem.W.mroIn K R (.type "BaseException") = some true)
    (lk : K.lookup R = some ⟨oc, od, .cls cd, osl⟩) (xS : PySem.W.exmOne K (.ref R) (.ref S) = some true) (xR : PySem.W.exmOne K (.ref R) (.ref R) = some true) (kS : PySem.W.kitOne K (.ref R) (.ref S) = some true) (kV : PySem.W.kitOne K (.ref R) (.type "ValueError") = some true)
    (k1 : PySem.W.kitOne K (.ref R) (.ref A1) = some b1) (k2 : PySem.W.kitOne K (.ref R) (.ref A2) = some b2) (k3 : PySem.W.kitOne K (.ref R) (.ref A3) = some b3) (k4 : PySem.W.kitOne K (.ref R) (.ref A4) = some b4) (k5 : PySem.W.kitOne K (.ref R) (.ref A5) = some b5) :
    Errs K mg S A1 A2 A3 A4 A5 R b1 b2 b3 b4 b5 :=
  ⟨PySem.W.mg_of X G aS, PySem.W.mg_of X G a1, PySem.W.mg_of X G a2, PySem.W.mg_of X G a3, PySem.W.mg_of X G a4, PySem.W.mg_of X G a5, xS, xR, kS, kV, k1, k2, k3, k4, k5, ⟨c1⟩, ⟨g1, g2, g3, g4, g5, g6, g7, _, lk, _, rfl⟩⟩
def spLaw3 (K : PySem.W.Frag) : Sp := fun vs H Q _ => ∃ (a : Addr) (ns : List Int), vs = [.ref a] ∧ SqL K H a (ns.map V.int) ∧ ns.length ≤ 63 ∧ ∀ H', Q (.bl true) H'
theorem ok_law3 {P : Program} {w : World} {K : PySem.W.Frag} {mg : Str → Option Value} {base : Heap} {f : Addr} {fd : FuncData} {st : Stmt} {N : List Str} {k : Nat} {x : Str} (F : Fun K "law" "law" st f fd) (S : FnScope N [x] (defScope st))
    (body : ∀ (cdv : Value) (A : Around) (outer : List Env) (s : Shared) (H : Hp) (E : XK), Room k (A.deeper (envOfC "law" (defScope st) s.heap.objs.size f cdv)) → ∀ (ns : List Int), ns.length ≤ 63 → ∀ B : Bs, B.M = [] →
      W3 (cx0 P w K mg base N "law" st f cdv A outer s H E) B (defBody st) (startG N [.scr ns]) [] ⟨fun _ _ => False, fun r _ => r = .bl true, fun _ _ => False, fun _ _ => False⟩) : FnOk P w K mg base CX0 (k + 1) f fd [x] (spLaw3 K) := by
  refine F.ok S (fun vs H Q E h => ?_) fun cdv A outer s H vs Q E hr h => ⟨_, pss_w, ?_⟩
  · obtain ⟨a, ns, rfl, _⟩ := h
    rfl
  · obtain ⟨a, ns, rfl, hS, hlen, q⟩ := h
    have il : IsL K H [.scr ns] [.ref a] := IsL.cons (by simp only [Is]; exact ⟨a, rfl, hS⟩) IsL.nil
    refine ends_mono (D := E3.to K ⟨[], H, H⟩ H ⟨fun _ _ => False, fun r _ => r = .bl true, fun _ _ => False, fun _ _ => False⟩) (D' := { nx := fun _ H' => Q .non H', rt := Q }) ?_ ?_ ?_ ?_ (body cdv A outer s H E hr ns hlen ⟨[], H, H⟩ rfl H _ H (Sat.entry (Same.refl _) il))
    · rintro σ' H' ⟨_, _, _, _, _, z⟩
      exact z.elim
    · rintro v H' ⟨r, Ω', F', ⟨σ', S'⟩, f', iv, rfl⟩
      rw [isB iv]
      exact q H'
    · rintro σ' H' ⟨_, _, _, _, _, z⟩
      exact z.elim
    · rintro σ' H' ⟨_, _, _, _, _, z⟩
      exact z.elim
theorem sp_law3 {K : PySem.W.Frag} {H : Hp} {a : Addr} {ns : List Int} (h : ns.length ≤ 63) (hS : SqL K H a (ns.map V.int)) : spLaw3 K [.ref a] H (fun v _ => v = .bl true) fun _ _ _ => False := ⟨a, ns, rfl, hS, h, fun _ => rfl⟩
theorem pln_sh {q : Rat} : pln (sh q) = true := rfl
end L3
namespace L3
open PySem PySem.Spec PySem.Calls PyProof.Rows L2
theorem globPair {K : PySem.W.Frag} {h : Heap} {mg : Str → Option Value} (X : K.In h) (G : h.Ns mainGlobals mg) {x : Str} {l : Addr} {od : Option Addr} {i j : Int} {t u : Tok} {n : Nat} {sl : Array (Option Value)} (a : PySem.W.nsIn K mainGlobals x = some (some (.ref l)))
    (lk : K.lookup l = some ⟨.type "tuple", od, .seq #[.int i t, .int j u] n, sl⟩) : GlobD K mg x (.tup [.int i, .int j]) :=
  ⟨.ref l, .ref l, PySem.W.mg_of X G a, rfl, fun F => Is.tupI (xs := [.int i, .int j]) (.inr ⟨_, _, _, lk, rfl, rfl, by show 2 ≤ sizeLine; decide, .cons ⟨_, rfl⟩ (.cons ⟨_, rfl⟩ .nil)⟩) (IsL.cons (i_int F) (IsL.cons (i_int F) IsL.nil))⟩
end L3
set_option Elab.async false
set_option linter.all false
set_option maxRecDepth 100000
set_option maxHeartbeats 4000000
namespace L3
open PySem PySem.Spec PySem.Calls PyProof.Rows L2
theorem dv_le {a g : Int} (h : 0 ≤ a) (hg : 0 < g) : 0 ≤ a / g ∧ a / g ≤ a := ⟨Int.ediv_nonneg h (Int.le_of_lt hg), Int.ediv_le_self _ h⟩
theorem dv_fit {a b : Int} {n : Nat} (h : 0 ≤ b ∧ b ≤ a) (ha : a.natAbs < 2 ^ n) : b.natAbs < 2 ^ n := by omega
end L3
set_option Elab.async false
set_option linter.all false
set_option maxRecDepth 100000
set_option maxHeartbeats 4000000
namespace L3
open PySem PySem.Spec PySem.Calls PyProof.Rows L2
end L3
set_option Elab.async false
set_option linter.all false
set_option maxRecDepth 100000
set_option maxHeartbeats 4000000
namespace L2
open PySem PySem.Spec PySem.Calls PyProof.Rows
section
variable {X : Cx}
theorem op_le_str : OpR X (compareOp .LtE) (fun x y H Q => ∃ i j, x = .str i ∧ y = .str j ∧ Q (.bl (!decide (j.cps.toList < i.cps.toList))) H) := by
  rintro pins s σ H x y v u Q I rx ry ⟨i, j, rfl, rfl, q⟩
  obtain ⟨t1, rfl⟩ := rx
  obtain ⟨t2, rfl⟩ := ry
  exact PySem.P.le_str (fin_bl I q rfl)
def Its (x : Str) : It := ⟨fun i _ => i < x.cps.size, fun i H v H' => H' = H ∧ ∃ c, x.cps[i]? = some c ∧ v = .str ⟨#[c]⟩, fun i _ => x.cps.size ≤ i⟩
theorem turn_str {P : Program} {w : World} {K : PySem.W.Frag} {tg : Expr} (x : Str) (tk : Tok) (it : Addr) : Turn P w K tg (Its x) [it] it (fun i h => h.IsStrIter it "str_ascii_iterator" x tk i) where
  mem := by simp
  obj := fun i h st b hb => by
    obtain ⟨o, e1, c1, d1⟩ := st
    rw [List.mem_singleton.mp hb]
    exact ⟨o, e1, fun v z => by rw [d1] at z; cases z⟩
  keep := fun i h h' ⟨o, e1, r1⟩ k => ⟨o, k it (by simp) o e1, r1⟩
  item := by
    intro X hP hw hK hc i pins s σ H E I hf st hg
    subst hP hw hK
    obtain ⟨f0, f1, f2, f3, f4, f5⟩ := hf it (by simp)
    have hi : i < x.cps.size := hg
    have hx : x.cps[i]? = some x.cps[i] := Array.getElem?_eq_getElem hi
    refine wpAny_pyNext_ascii_item st hx fun h' st' sb => ?_
    have I1 : Inv X pins σ H { s with heap := h', toks := s.toks + 1 } := I.turned (fun b o hb e => (sb.2 b hb).trans e) f0 f1 f3 f4 f5
    obtain ⟨o, e1, c1, d1⟩ := id st'
    exact ⟨_, rfl, go_of (s := { s with heap := h', toks := s.toks + 1 }) e1 c1 d1 (by decide) ⟨.str ⟨#[x.cps[i]]⟩, H, I1, ⟨_, rfl⟩, ⟨rfl, _, hx, rfl⟩, st', fun b hb => (hf b hb).1⟩⟩
  done := by
    intro X hP hw hK hc i pins s σ H E I hf st hg
    subst hP hw hK
    obtain ⟨f0, f1, f2, f3, f4, f5⟩ := hf it (by simp)
    have hi : x.cps.size ≤ i := hg
    exact wpAny_pyNext_ascii_end (I.ok.hd hc) st (Array.getElem?_eq_none_iff.mpr hi) fun h' eb => ⟨rfl, I.turned (t' := s.toks) (fun b o hb e => eb b o hb e) f0 f1 f3 f4 f5⟩
  self := fun _ _ _ _ _ st h => wpAny_pyIter_striter_ascii st h
def iStr (tl : TE) : TI := fun σ H R => tl σ H fun v H1 => ∃ x : Str, v = .str x ∧ x.cps.all (· < 128) = true ∧ R (Its x) H1
theorem pi_str {tg l : Expr} {tl : TE} (hl : PE X l tl) : PI X tg l (iStr tl) := by
  intro pins s σ H R I h
  refine thn (hl pins s σ H _ I h) fun v s1 ⟨y, H1, I1, r1, x, e1, ha, q⟩ => ?_
  subst e1
  obtain ⟨tk, rfl⟩ := r1
  refine wpAny_pyIter_ascii ha ⟨s1.heap.objs.size, [s1.heap.objs.size], _, _, H1, rfl, I1.kept (t' := s1.toks) fun b o e => Heap.get?_push_of_some _ e, turn_str x tk _, ⟨_, Heap.get?_push_size _ rfl, rfl, rfl⟩, fun b hb => ?_, q⟩
  rw [List.mem_singleton.mp hb]
  exact I1.fpOk (Nat.le_refl _) (I1.hok.fresh (Nat.le_refl _))
theorem bls_get {bs : List Bool} {us : List Value} (r : Vals (bs.map V.bl) us) (i : Nat) (v : Value) (h : us.toArray[i]? = some v) : v = .bool (bs.getD i false) := by
  have hl := r.length
  rw [List.length_map] at hl
  have h' : us[i]? = some v := by simpa using h
  have hi : i < bs.length := by rw [hl]; exact (List.getElem?_eq_some_iff.mp h').1
  have e1 : (bs.map V.bl)[i]? = some (V.bl bs[i]) := by rw [List.getElem?_map, List.getElem?_eq_getElem hi]; rfl
  obtain ⟨u, hu, ru⟩ := r.get e1
  rw [h'] at hu
  cases hu
  rw [List.getD_eq_getElem?_getD, List.getElem?_eq_getElem hi]
  exact ru
theorem range_bls (bs : List Bool) : (List.range bs.length).map (fun i => bs.getD i false) = bs := by
  refine List.ext_getElem? fun i => ?_
  rw [List.getElem?_map]
  by_cases hi : i < bs.length
  · rw [List.getElem?_range hi, List.getElem?_eq_getElem hi]
    simp [List.getD_eq_getElem?_getD, List.getElem?_eq_getElem hi]
  · rw [List.getElem?_eq_none_iff.mpr (by simpa using hi), List.getElem?_eq_none_iff.mpr (by omega)]
    rfl
theorem call_all3 (hc : X.calm = true) : CallR X (.builtin "all") (fun xs H Q => ∃ (a : Addr) (bs : List Bool), xs = [.ref a] ∧ SqL X.K H a (bs.map V.bl) ∧ Q (.bl (bs.all id)) H) := by
  rintro pins s σ H xs us Q I r ⟨a, bs, rfl, hl, q⟩
  obtain ⟨u, rfl, rx⟩ := vals1 r
  cases rx
  obtain ⟨its, rv, p, _⟩ := I.list hl
  have hz : its.toArray.size = bs.length := by have := rv.length; rw [List.length_map] at this; simpa using this.symm
  refine call_all_walk (wpAny_pyIter_list p.isList ⟨s.heap.objs.size, _, _, _, _, _, fun i => bs.getD i false, rfl, Walks.list (show X.A.in1.handled = none from I.ok.hd hc) s.heap.objs.size a (Nat.ne_of_lt (let ⟨_, e, _⟩ := p.isList; Heap.lt_size e)) its.toArray, ⟨⟨_, Heap.get?_push_size _ rfl, rfl, rfl⟩, p.isList.at fun o e => Heap.get?_push_of_some _ e⟩, ?_, ?_⟩)
  · intro i v s' Q' E' hv hq
    rw [bls_get rv i v hv]
    exact wpAny_truthy_bool hq
  · intro h' tk hk
    refine ⟨.bl (bs.all id), H, I.kept fun b o e => hk b o (fun z => absurd (Heap.lt_size e) (by rw [List.mem_singleton.mp z]; exact Nat.lt_irrefl _)) (Heap.get?_push_of_some _ e), ?_, q⟩
    show Value.bool _ = Value.bool _
    rw [hz, show (List.range bs.length).all (fun i => bs.getD i false) = ((List.range bs.length).map fun i => bs.getD i false).all id by rw [List.all_map]; rfl, range_bls]
theorem call_any3 (hc : X.calm = true) : CallR X (.builtin "any") (fun xs H Q => ∃ (a : Addr) (bs : List Bool), xs = [.ref a] ∧ SqL X.K H a (bs.map V.bl) ∧ Q (.bl (bs.any id)) H) := by
  rintro pins s σ H xs us Q I r ⟨a, bs, rfl, hl, q⟩
  obtain ⟨u, rfl, rx⟩ := vals1 r
  cases rx
  obtain ⟨its, rv, p, _⟩ := I.list hl
  have hz : its.toArray.size = bs.length := by have := rv.length; rw [List.length_map] at this; simpa using this.symm
  refine call_any_walk (wpAny_pyIter_list p.isList ⟨s.heap.objs.size, _, _, _, _, _, fun i => bs.getD i false, rfl, Walks.list (show X.A.in1.handled = none from I.ok.hd hc) s.heap.objs.size a (Nat.ne_of_lt (let ⟨_, e, _⟩ := p.isList; Heap.lt_size e)) its.toArray, ⟨⟨_, Heap.get?_push_size _ rfl, rfl, rfl⟩, p.isList.at fun o e => Heap.get?_push_of_some _ e⟩, ?_, ?_⟩)
  · intro i v s' Q' E' hv hq
    rw [bls_get rv i v hv]
    exact wpAny_truthy_bool hq
  · intro h' tk hk
    refine ⟨.bl (bs.any id), H, I.kept fun b o e => hk b o (fun z => absurd (Heap.lt_size e) (by rw [List.mem_singleton.mp z]; exact Nat.lt_irrefl _)) (Heap.get?_push_of_some _ e), ?_, q⟩
    show Value.bool _ = Value.bool _
    rw [hz, show (List.range bs.length).any (fun i => bs.getD i false) = ((List.range bs.length).map fun i => bs.getD i false).any id by rw [List.any_map]; rfl, range_bls]
end
end L2
namespace L3
open PySem PySem.Spec PySem.Calls PyProof.Rows L2
theorem IsL.of_bls {K : PySem.W.Frag} {H : Hp} : ∀ {bs : List Bool} {xs : List V}, IsL K H (bs.map D.bl) xs → xs = bs.map V.bl
  | [], _, h => by simp only [List.map_nil, IsL] at h; subst h; rfl
  | n :: ns, _, h => by
    simp only [List.map_cons, IsL] at h
    obtain ⟨x, r, rfl, h1, h2⟩ := h
    simp only [Is] at h1
    rw [h1, IsL.of_bls h2]; rfl
def signs (x : Str) : List D := x.cps.toList.map fun c => D.str ⟨#[c]⟩
def leS (i j : Str) : Bool := !decide (j.cps.toList < i.cps.toList)
theorem bt_all : bootBuiltins "all" = some (.builtin "all") := by decide +kernel
theorem bt_any : bootBuiltins "any" = some (.builtin "any") := by decide +kernel
section
variable {X : Cx} {Γ : Ga} {tg a b c : Expr} {pos p : Pos} {x y z : Str} {bs : List Bool}
theorem i_text (h : P3 X Γ a (.str x)) (ha : x.cps.all (· < 128) = true) : I3 X Γ tg a (signs x) := PI.of (pi_str h) fun σ H R ⟨F, fh, sl, q⟩ => ⟨F, fh, sl, fun v H' F' p i => by
  refine ⟨x, isS i, ha, q _ H' F' p fun n F2 H2 e1 e2 => ⟨fun d w => ?_, fun w => ?_⟩⟩
  · unfold signs at w
    rw [List.getElem?_map] at w
    obtain ⟨c, hc, rfl⟩ := Option.map_eq_some_iff.mp w
    rw [Array.getElem?_toList] at hc
    have hi : n < x.cps.size := (Array.getElem?_eq_some_iff.mp hc).1
    refine ⟨hi, ?_⟩
    rintro v' H3 ⟨rfl, c', hc', rfl⟩
    rw [hc] at hc'
    cases hc'
    exact ⟨F2, Pur.refl e2, i_str F2⟩
  · unfold signs at w
    rw [List.length_map, Array.length_toList] at w
    exact w⟩
theorem p_chainS (ha : P3 X Γ a (.str x)) (hb : P3 X Γ b (.str y)) (hc : P3 X Γ c (.str z)) (hm : lastMarks [.LtE, .LtE] [b, c] = false := by with_unfolding_all rfl) : P3 X Γ (.Compare a [.LtE, .LtE] [b, c] pos) (.bl (leS x y && leS y z)) :=
  PE.of (pe_chain op_le_str op_le_str ha hb hc hm) fun σ H Q ⟨F, fh, sl, k⟩ => ⟨F, fh, sl, fun v1 H1 F1 p1 i1 => ⟨F1, p1.fh, sl.mono p1.ff, fun v2 H2 F2 p2 i2 => ⟨x, y, isS i1, isS i2, leS x y, rfl, by
    cases q : leS x y with
    | true =>
      rw [if_pos rfl]
      exact ⟨F2, p2.fh, sl.mono (p1.ff.trans p2.ff), fun v3 H3 F3 p3 i3 => ⟨y, z, isS i2, isS i3, k _ _ _ ((p1.trans p2).trans p3) (by rw [q]; exact i_bl F3)⟩⟩
    | false =>
      rw [if_neg Bool.false_ne_true]
      exact k _ _ _ (p1.trans p2) (by rw [q]; exact i_bl F2)⟩⟩⟩
theorem p_all (hk : X.calm = true) (hm : X.mg "all" = none) (hg : Gl X "all") (ha : P3 X Γ a (.lst (bs.map D.bl))) (he : starEach [a] X.env = (false, eval a X.env) :: starEach [] X.env := by rfl) : P3 X Γ (.Call (.Name "all" p) [a] [] pos) (.bl (bs.all id)) :=
  p_callB (call_all3 hk) hg hm bt_all (pl_cons ha pl_nil he) (fun vs H F Q fh i k => by
    obtain ⟨v, rfl, j0⟩ := isL1 i
    obtain ⟨l, xs, rfl, s1, j1⟩ := isLst j0
    cases IsL.of_bls j1
    exact ⟨l, bs, rfl, fh.seq s1, k _ _ _ (Pur.refl fh) (i_bl F)⟩) (by decide) (by decide) he
theorem p_any (hk : X.calm = true) (hm : X.mg "any" = none) (hg : Gl X "any") (ha : P3 X Γ a (.lst (bs.map D.bl))) (he : starEach [a] X.env = (false, eval a X.env) :: starEach [] X.env := by rfl) : P3 X Γ (.Call (.Name "any" p) [a] [] pos) (.bl (bs.any id)) :=
  p_callB (call_any3 hk) hg hm bt_any (pl_cons ha pl_nil he) (fun vs H F Q fh i k => by
    obtain ⟨v, rfl, j0⟩ := isL1 i
    obtain ⟨l, xs, rfl, s1, j1⟩ := isLst j0
    cases IsL.of_bls j1
    exact ⟨l, bs, rfl, fh.seq s1, k _ _ _ (Pur.refl fh) (i_bl F)⟩) (by decide) (by decide) he
end
def isHard (L : Bool) : HO → Bool
  | .lst _ => !L
  | .ins _ _ _ => true
  | .ext _ => true
  | .dK _ => true
  | _ => false
def Hard (L : Bool) (Ω : Om) : Prop := ∀ q ∈ Ω, ∀ F o, q.2 F o → isHard L o = true
theorem hard_nil {L : Bool} : Hard L [] := fun q hq => absurd hq (by simp)
theorem hard_cons {L : Bool} {a : Addr} {w : Ow} {Ω : Om} (h : ∀ F o, w F o → isHard L o = true) (t : Hard L Ω) : Hard L ((a, w) :: Ω) := fun q hq => by
  rcases List.mem_cons.mp hq with z | z
  · subst z; exact h
  · exact t q z
def Lends (K : PySem.W.Frag) (w : Ow) (d : D) : Prop := ∀ (F F' : Hp) (a : Addr) (o : HO), Same F F' → F' a = some o → w F o → Is K F' d (.ref a)
theorem lends_lst {K : PySem.W.Frag} {ds : List D} : Lends K (oLst K ds) (.lst ds) := fun F F' a o e ha ⟨xs, ho, il⟩ => by
  subst ho
  exact Is.lstI (.inl ha) (il.mono e)
def Lent (K : PySem.W.Frag) (Ω : Om) (Γ Γ' : Ga) : Prop := ∀ (i : Nat) (d : D), Γ'[i]? = some (some d) → Γ[i]? = some (some d) ∨ ∃ a w, Γ[i]? = some (some (.raw (.ref a))) ∧ (a, w) ∈ Ω ∧ Lends K w d
theorem lent_refl {K : PySem.W.Frag} {Ω : Om} {Γ : Ga} : Lent K Ω Γ Γ := fun i d h => .inl h
theorem lent_set {K : PySem.W.Frag} {Ω : Om} {Γ Γ' : Ga} {i : Nat} {a : Addr} {w : Ow} {d : D} (h : Lent K Ω Γ Γ') (hi : Γ[i]? = some (some (.raw (.ref a)))) (hm : (a, w) ∈ Ω) (hl : Lends K w d) : Lent K Ω Γ (Γ'.set i (some d)) := fun j e q => by
  rw [List.getElem?_set] at q
  by_cases hj : i = j
  · rw [if_pos hj] at q
    split at q
    · cases q
      exact .inr ⟨a, w, hj ▸ hi, hm, hl⟩
    · cases q
  · rw [if_neg hj] at q
    exact h j e q
def addF (Ω : Om) (F H : Hp) : Hp := fun b => if b ∈ Ω.map (·.1) then H b else F b
def subF (Ω : Om) (F : Hp) : Hp := fun b => if b ∈ Ω.map (·.1) then none else F b
mutual
/-- tuples (and lists, where L) of scalars, all the way down -/
def solid (L : Bool) : D → Bool
  | .non => true
  | .bl _ => true
  | .int _ => true
  | .str _ => true
  | .tup ds => solids L ds
  | .lst ds => L && solids L ds
  | _ => false
def solids (L : Bool) : List D → Bool
  | [] => true
  | d :: ds => solid L d && solids L ds
end
section
variable {L : Bool} {K : PySem.W.Frag} {B : Bs} {Γ Γ' : Ga} {Ω : Om} {F F1 : Hp} {σ : L2.St} {H H1 : Hp}
theorem Sat.notin (S : Sat K B Γ Ω F σ H) {b : Addr} {u : HO} (e : F b = some u) : b ∉ Ω.map (·.1) := fun z => by
  obtain ⟨q, hq, rfl⟩ := List.mem_map.mp z
  rw [(S.own q hq).1] at e
  cases e
theorem Sat.addSame (S : Sat K B Γ Ω F σ H) : Same F (addF Ω F H) := fun b u e => by
  unfold addF
  rw [if_neg (S.notin e)]
  exact e
theorem Sat.addSub (S : Sat K B Γ Ω F σ H) : Same (addF Ω F H) H := fun b u e => by
  unfold addF at e
  split at e
  · exact e
  · exact S.fh _ _ e
theorem Sat.lent (S : Sat K B Γ Ω F σ H) (h : Lent K Ω Γ Γ') : Sl K (addF Ω F H) Γ' σ := fun i d q => by
  rcases h i d q with z | ⟨a, w, z, m, l⟩
  · obtain ⟨v, h1, h2⟩ := S.sl i d z
    exact ⟨v, h1, h2.mono S.addSame⟩
  · obtain ⟨v, h1, h2⟩ := S.sl i _ z
    cases isR h2
    obtain ⟨fa, o, ha, ho⟩ := S.own (a, w) m
    refine ⟨_, h1, l F _ a o S.addSame ?_ (ho F (Same.refl _))⟩
    unfold addF
    rw [if_pos (List.mem_map.mpr ⟨(a, w), m, rfl⟩)]
    exact ha
theorem Sat.back (S : Sat K B Γ Ω F σ H) (p : Pur (addF Ω F H) H F1 H1) : Pur F H (subF Ω F1) H1 := by
  refine ⟨fun b u e => ?_, fun b u e => ?_, p.hh, fun b q => ?_⟩
  · unfold subF
    rw [if_neg (S.notin e)]
    exact p.ff _ _ (S.addSame _ _ e)
  · unfold subF at e
    split at e
    · cases e
    · exact p.fh _ _ e
  · unfold subF at q
    split at q
    · exact absurd rfl q
    · rename_i hn
      rcases p.new b q with z | z
      · unfold addF at z
        rw [if_neg hn] at z
        exact .inl z
      · exact .inr z
mutual
theorem is_sub (hh : ∀ b ∈ Ω.map (·.1), ∀ o, F1 b = some o → isHard L o = true) : ∀ {d : D} {v : V}, solid L d = true → Is K F1 d v → Is K (subF Ω F1) d v
  | .non, v, _, h => by simp only [Is] at h ⊢; exact h
  | .bl _, v, _, h => by simp only [Is] at h ⊢; exact h
  | .int _, v, _, h => by simp only [Is] at h ⊢; exact h
  | .str _, v, _, h => by simp only [Is] at h ⊢; exact h
  | .tup ds, v, hs, h => by
    rw [solid] at hs
    obtain ⟨a, xs, rfl, h1, h2⟩ := isT h
    refine Is.tupI ?_ (isL_sub hh hs h2)
    have keep : ∀ o, F1 a = some o → isHard L o = false → subF Ω F1 a = some o := fun o e n => by
      unfold subF
      rw [if_neg fun z => by rw [hh a z o e] at n; cases n]
      exact e
    rcases h1 with (h1 | ⟨o, h1⟩) | h1
    · exact .inl (.inl (keep _ h1 rfl))
    · exact .inl (.inr ⟨o, keep _ h1 rfl⟩)
    · exact .inr h1
  | .raw _, _, h, _ => by simp [solid] at h
  | .lst ds, v, hs, h => by
    rw [solid, Bool.and_eq_true] at hs
    obtain ⟨a, xs, rfl, h1, h2⟩ := isLstR h
    refine Is.lstI ?_ (isL_sub hh hs.2 h2)
    have keep : ∀ o, F1 a = some o → isHard L o = false → subF Ω F1 a = some o := fun o e n => by
      unfold subF
      rw [if_neg fun z => by rw [hh a z o e] at n; cases n]
      exact e
    rcases h1 with h1 | ⟨o, h1⟩
    · exact .inl (keep _ h1 (by rw [hs.1]; rfl))
    · exact .inr ⟨o, keep _ h1 rfl⟩
  | .dk _ _, _, h, _ => by simp [solid] at h
  | .dt _ _, _, h, _ => by simp [solid] at h
  | .obj _ _ _, _, h, _ => by simp [solid] at h
  | .exc _, _, h, _ => by simp [solid] at h
  | .scr _, _, h, _ => by simp [solid] at h
theorem isL_sub (hh : ∀ b ∈ Ω.map (·.1), ∀ o, F1 b = some o → isHard L o = true) : ∀ {ds : List D} {xs : List V}, solids L ds = true → IsL K F1 ds xs → IsL K (subF Ω F1) ds xs
  | [], xs, _, h => by simp only [IsL] at h ⊢; exact h
  | d :: ds, xs, hs, h => by
    rw [solids, Bool.and_eq_true] at hs
    simp only [IsL] at h ⊢
    obtain ⟨x, r, e, h1, h2⟩ := h
    exact ⟨x, r, e, is_sub hh hs.1 h1, isL_sub hh hs.2 h2⟩
end
theorem Sat.hard (S : Sat K B Γ Ω F σ H) (hd : Hard L Ω) (p : Pur (addF Ω F H) H F1 H1) : ∀ b ∈ Ω.map (·.1), ∀ o, F1 b = some o → isHard L o = true := fun b hb o e => by
  obtain ⟨q, hq, rfl⟩ := List.mem_map.mp hb
  obtain ⟨_, o', h1, h2⟩ := S.own q hq
  have e1 := p.fh _ _ e
  rw [p.hh _ _ h1] at e1
  cases e1
  exact hd q hq F _ (h2 F (Same.refl _))
end
section
variable {X : Cx} {B : Bs} {Γ Γ' : Ga} {Ω : Om} {E : E3} {rest : List Stmt} {e : Expr} {d : D} {ds : List D} {k : Bool} {R : D → Om → Prop} {RT : Bool → Om → Prop} {L : Bool}
theorem v_lend (h : P3 X Γ' e d) (hl : Lent X.K Ω Γ Γ') (hd : Hard L Ω) (hs : solid L d = true) (r : R d Ω) : V3 X B e Γ Ω R := fun F σ H S =>
  h.we ⟨addF Ω F H, S.addSub, S.lent hl, fun v H' F' p i => ⟨d, Ω, subF Ω F', S.pur (S.back p), (S.back p).ff, is_sub (S.hard hd p) hs i, r⟩⟩
theorem vt_lend (h : PT3 X Γ' e k) (hl : Lent X.K Ω Γ Γ') (r : RT k Ω) : VT3 X B e Γ Ω RT := fun F σ H S =>
  h.wt ⟨addF Ω F H, S.addSub, S.lent hl, fun H' F' p => ⟨Ω, subF Ω F', S.pur (S.back p), (S.back p).ff, r⟩⟩
end
end L3
set_option Elab.async false
set_option linter.all false
set_option maxRecDepth 100000
set_option maxHeartbeats 4000000
namespace L2
open PySem PySem.Spec PySem.Calls PyProof.Rows
def InitK (K : PySem.W.Frag) (mg : Str → Option Value) (x : Str) (C : Addr) (q : Str) (st : Stmt) (ps : List Str) : Prop := ∃ f fd, Fun K "__init__" q st f fd ∧ Mk K C f ∧ mg x = some (.ref C) ∧ Binds K fd ps []
def OkI (P : Program) (w : World) (K : PySem.W.Frag) (mg : Str → Option Value) (base : Heap) (CX : CXT) (k : Nat) (x : Str) (C : Addr) (ps : List Str) (sp : Sp) : Prop := ∃ f fd, FnOk P w K mg base CX k f fd ps sp ∧ Mk K C f ∧ mg x = some (.ref C) ∧ Binds K fd ps []
theorem init_mk {K : PySem.W.Frag} {h : Heap} {mg : Str → Option Value} (X : K.In h) (G : h.Ns mainGlobals mg) {x : Str} {C : Addr} {q : Str} {st : Stmt} (ps : List Str) {f : Addr} {oc : Value} {od an : Option Addr} {osl : Array (Option Value)} {kV doc pm cdv ct : Value}
    (g : PySem.W.nsIn K mainGlobals x = some (some (.ref C))) (a : PySem.W.findIn K (.ref C) "__init__" = some (some (.ref f))) (mk : PySem.W.makesIn K C = true) (i : PySem.W.isFn K (.ref f) = true) (kc : PySem.W.keepIn K (.ref C) = true)
    (l : K.lookup f = some ⟨oc, od, .func (PySem.W.fnOf "__init__" q (defArgs st) (defBody st) (defScope st) .none kV doc pm an cdv ct), osl⟩)
    (c : PySem.W.codeIn K cdv q = true) (k : PySem.W.keepIn K (.ref f) = true)
    (hb : ∀ (kV doc pm : Value) (an : Option Addr) (cdv ct : Value) (us : List Value), us.length = ps.length → bindArgs (PySem.W.fnOf "__init__" q (defArgs st) (defBody st) (defScope st) .none kV doc pm an cdv ct) ⟨us, []⟩ = pure (ps.zip us)) : InitK K mg x C q st ps :=
  have F := fun_mk (st := st) l c k
  ⟨f, _, F, ⟨mk, a, i, kc⟩, PySem.W.mg_of X G g, F.binds hb⟩
section
variable {P : Program} {w : World} {K : PySem.W.Frag} {mg : Str → Option Value} {base : Heap} {C : Addr} {m q x : Str} {st : Stmt} {N ps : List Str} {k : Nat} {sp : Sp}
theorem InitK.ok (d : InitK K mg x C q st ps) (S : FnScope N ps (defScope st)) (len : ∀ vs H Q E, sp vs H Q E → vs.length = ps.length)
    (hbody : ∀ (f : Addr) (cdv : Value) (A : Around) (outer : List Env) (s : Shared) (H : Hp) (vs : List V) (Q : VK) (E : XK), Room k (A.deeper (envOfC q (defScope st) s.heap.objs.size f cdv)) → sp vs H Q E →
      ∃ t, PSs (cxOf CX0 P w K mg base N q (defScope st) f cdv A outer s H E).nox (defBody st) t ∧ t { nx := fun _ H' => Q .non H', rt := Q } (start N vs) H) : OkI P w K mg base CX0 (k + 1) x C ps sp := by
  obtain ⟨f, fd, F, hm, g, b⟩ := d
  exact ⟨f, fd, F.ok S len fun cdv A outer s H vs Q E hr h => hbody f cdv A outer s H vs Q E hr h, hm, g, b⟩
theorem InitK.okX (d : InitK K mg x C q st ps) (S : FnScope N ps (defScope st)) (len : ∀ vs H Q E, sp vs H Q E → vs.length = ps.length)
    (hbody : ∀ (f : Addr) (cdv : Value) (A : Around) (outer : List Env) (s : Shared) (H : Hp) (vs : List V) (Q : VK) (E : XK), Room k (A.deeper (envOfC q (defScope st) s.heap.objs.size f cdv)) → sp vs H Q E →
      ∃ t, PSs (cxOf (CXo P w) P w K mg base N q (defScope st) f cdv A outer s H E) (defBody st) t ∧ t { nx := fun _ H' => Q .non H', rt := Q } (start N vs) H) : OkI P w K mg base (CXo P w) (k + 1) x C ps sp := by
  obtain ⟨f, fd, F, hm, g, b⟩ := d
  obtain ⟨oc, od, kV, doc, pm, an, cdv, ct, osl, rfl, lk, hcd⟩ := F.ex
  exact ⟨f, _, fn_of lk hcd S len fun A outer s H vs Q E hr hsp => hbody f cdv A outer s H vs Q E hr hsp, hm, g, b⟩
end
theorem putF_new {f : Str} {v : V} : ∀ {fs : List (Str × V)}, (∀ p ∈ fs, p.1 ≠ f) → putF f v fs = fs ++ [(f, v)]
  | [], _ => rfl
  | (g, x) :: r, h => by
    rw [putF, if_neg (h (g, x) (by simp)), putF_new fun p hp => h p (List.mem_cons_of_mem _ hp)]
    rfl
end L2
namespace L3
open PySem PySem.Spec PySem.Calls PyProof.Rows L2
def oIns (K : PySem.W.Frag) (C : Addr) (fs : List Str) (ds : List D) : Ow := fun F o => ∃ dx xs, o = .ins C dx (fs.zip xs) ∧ fs.length = xs.length ∧ IsL K F ds xs
theorem hard_ins {K : PySem.W.Frag} {C : Addr} {fs : List Str} {ds : List D} {L : Bool} : ∀ F o, oIns K C fs ds F o → isHard L o = true := fun F o ⟨dx, xs, e, _⟩ => by subst e; rfl
theorem lends_ins {K : PySem.W.Frag} {C : Addr} {fs : List Str} {ds : List D} : Lends K (oIns K C fs ds) (.obj C fs ds) := fun F F' a o e ha ⟨dx, xs, ho, hl, il⟩ => by
  subst ho
  simp only [Is]
  exact ⟨a, dx, xs, rfl, ha, hl, il.mono e⟩
theorem isO {K : PySem.W.Frag} {F : Hp} {C : Addr} {fs : List Str} {ds : List D} {v : V} (h : Is K F (.obj C fs ds) v) : ∃ a dx xs, v = .ref a ∧ F a = some (.ins C dx (fs.zip xs)) ∧ fs.length = xs.length ∧ IsL K F ds xs := by simpa only [Is] using h
theorem fld_is {K : PySem.W.Frag} {F : Hp} {f : Str} {d : D} : ∀ {fs : List Str} {ds : List D} {xs : List V}, IsL K F ds xs → (fs.zip ds).lookup f = some d → ∃ x, (fs.zip xs).lookup f = some x ∧ Is K F d x
  | [], _, _, _, h => by simp at h
  | g :: fs, [], _, _, h => by simp at h
  | g :: fs, e :: ds, xs, il, h => by
    simp only [IsL] at il
    obtain ⟨x, r, rfl, i1, i2⟩ := il
    rw [List.zip_cons_cons, List.lookup_cons] at h ⊢
    cases q : f == g with
    | true => rw [q] at h; cases h; exact ⟨x, rfl, i1⟩
    | false => rw [q] at h; exact fld_is i2 h
theorem zip_snoc {f : Str} {x : V} : ∀ {fs : List Str} {xs : List V}, fs.length = xs.length → fs.zip xs ++ [(f, x)] = (fs ++ [f]).zip (xs ++ [x])
  | [], [], _ => rfl
  | g :: fs, y :: xs, h => by
    rw [List.zip_cons_cons, List.cons_append, List.cons_append, List.cons_append, List.zip_cons_cons, zip_snoc (by simpa using h)]
section
variable {X : Cx} {B : Bs} {Γ : Ga} {Ω : Om} {E : E3} {rest : List Stmt} {e o : Expr} {es : List Expr} {d : D} {ds : List D} {C : Addr} {fs : List Str} {f : Str} {pos pos' p apos : Pos} {R : D → Om → Prop}
theorem p_fld (he : P3 X Γ e (.obj C fs ds)) (c : Cls X.K C) (n : NoAttr X.K C f) (l : (fs.zip ds).lookup f = some d) (hb : attributeBase e f X.env (eval e X.env) = eval e X.env := by rfl) : P3 X Γ (.Attribute e f pos) d :=
  PE.of (pe_fld he hb) fun σ H Q ⟨F, fh, sl, k⟩ => ⟨F, fh, sl, fun v H' F' p i => by
    obtain ⟨a, dx, xs, rfl, ha, hl, il⟩ := isO i
    obtain ⟨x, h1, h2⟩ := fld_is il l
    exact ⟨a, C, dx, _, x, rfl, p.fh _ _ ha, c, n, h1, k _ _ _ p h2⟩⟩
theorem w_setF {a : Addr} (ho : P3 X Γ o (.raw (.ref a))) (c : Cls X.K C) (n : NoAttr X.K C f)
    (h : V3 X B e Γ Ω fun d Ω1 => ∃ fs ds Ω2, Ω1.Perm ((a, oIns X.K C fs ds) :: Ω2) ∧ f ∉ fs ∧ fs.length < 1000 ∧ W3 X B rest Γ ((a, oIns X.K C (fs ++ [f]) (ds ++ [d])) :: Ω2) E)
    (hs : swapsWith e (some (.Attribute o f pos')) pos.line X.env = pure false := by rfl) : W3 X B (.Assign [.Attribute o f pos'] e pos :: rest) Γ Ω E := fun F σ H S pins s I =>
  pss_cons (ps_fld ho pe_w hs) pss_w pins s σ H _ I ((h F σ H S).mono fun v H1 ⟨d, Ω1, F1, S1, f1, i1, fs, ds, Ω2, pm, hf, hz, h1⟩ => ⟨F1, S1.fh, S1.sl, fun y H2 F2 p2 i2 => by
    cases isR i2
    have S2 := (S1.pur p2).perm pm.symm
    obtain ⟨fa, o', ha, ho'⟩ := S2.own (a, oIns X.K C fs ds) (by simp)
    obtain ⟨dx, xs, rfl, hl, il⟩ := ho' F2 (Same.refl _)
    refine ⟨a, C, dx, _, rfl, ha, c, n, by rw [List.length_zip, ← hl]; omega, ?_⟩
    rw [putF_new (f := f) (v := v) (fs := fs.zip xs) (fun q hq z => hf (by rw [← z]; exact (List.of_mem_zip hq).1)), zip_snoc hl]
    exact to_mono (f1.trans p2.ff) (h1 F2 σ _ (S2.turn fun F3 e3 => ⟨dx, xs ++ [v], rfl, by rw [List.length_append, List.length_append, hl]; rfl, (il.mono e3).append (IsL.cons (i1.mono (p2.ff.trans e3)) IsL.nil)⟩))⟩)
end
def spI (K : PySem.W.Frag) (n : Nat) (Cc : Addr) (C : List D → List Str × List D → Prop) : Sp := fun vs H Q _ => ∃ (a : Addr) (us : List V) (ds : List D) (r : List Str × List D) (F : Hp) (dx : Addr), vs = .ref a :: us ∧ ds.length + 1 = n ∧ Same F H ∧ F a = none ∧ H a = some (.ins Cc dx []) ∧ IsL K F ds us ∧ C ds r ∧
  ∀ (H' F' : Hp) (dx' : Addr) (xs : List V), Same F F' → Same F' H' → (∀ b o, b ≠ a → H b = some o → H' b = some o) → (∀ b, F' b ≠ none → F b ≠ none ∨ H b = none) → F' a = none → H' a = some (.ins Cc dx' (r.1.zip xs)) → r.1.length = xs.length → IsL K F' r.2 xs → Q .non H'
theorem spI.len {K : PySem.W.Frag} {n : Nat} {Cc : Addr} {C : List D → List Str × List D → Prop} {vs : List V} {H : Hp} {Q : VK} {E : XK} (h : spI K n Cc C vs H Q E) : vs.length = n := by
  obtain ⟨a, us, ds, r, F, dx, rfl, l, _, _, _, i, _⟩ := h
  rw [List.length_cons, i.len, l]
section
variable {X : Cx} {sts : List Stmt} {N : List Str} {n : Nat} {vs : List V} {H : Hp} {Q : VK} {E : XK}
theorem reads_init {Cc : Addr} {C : List D → List Str × List D → Prop} (h : spI X.K n Cc C vs H Q E)
    (body : ∀ (a : Addr) (ds : List D) (r : List Str × List D), C ds r → ∀ B : Bs, B.M = [a] → W3 X B sts (startG N (.raw (.ref a) :: ds)) [(a, oIns X.K Cc [] [])] ⟨fun _ Ω => Ω = [(a, oIns X.K Cc r.1 r.2)], fun _ _ => False, fun _ _ => False, fun _ _ => False⟩) : ∃ t, PSs X sts t ∧ t { nx := fun _ H' => Q .non H', rt := Q } (L2.start N vs) H := by
  refine ⟨_, pss_w, ?_⟩
  obtain ⟨a, us, ds, r, F, dx, rfl, hl, fh, fa, ha, il, hC, q⟩ := h
  have il' : IsL X.K F (.raw (.ref a) :: ds) (.ref a :: us) := IsL.cons (i_raw F) il
  have S0 : Sat X.K ⟨[a], F, H⟩ (startG N (.raw (.ref a) :: ds)) [(a, oIns X.K Cc [] [])] F (L2.start N (.ref a :: us)) H := by
    refine ⟨Same.refl _, fh, fun _ q => .inl q, fun _ _ _ e => e, by simp, fun p hp => ?_, fun p hp => ?_, Sl.start il'⟩
    · rw [List.mem_singleton.mp hp]; exact .inl (by simp)
    · rw [List.mem_singleton.mp hp]; exact ⟨fa, _, ha, fun _ _ => ⟨dx, [], rfl, rfl, IsL.nil⟩⟩
  refine ends_mono (D := E3.to X.K ⟨[a], F, H⟩ F ⟨fun _ Ω => Ω = [(a, oIns X.K Cc r.1 r.2)], fun _ _ => False, fun _ _ => False, fun _ _ => False⟩) (D' := { nx := fun _ H' => Q .non H', rt := Q }) ?_ ?_ ?_ ?_ (body a ds r hC ⟨[a], F, H⟩ rfl F _ H S0)
  · rintro σ' H' ⟨Γ', Ω', F', S', f', rfl⟩
    obtain ⟨fa', o, ha', ho⟩ := S'.own (a, oIns X.K Cc r.1 r.2) (by simp)
    obtain ⟨dx', xs, rfl, hl', il2⟩ := ho F' (Same.refl _)
    refine q H' F' dx' xs S'.f0 S'.fh (fun b o hb e => S'.kp b o (by simpa using hb) e) (fun b hb => ?_) fa' ha' hl' il2
    rcases S'.fr b hb with z | z | z
    · exact .inl z
    · exact .inr z
    · have e : b = a := by simpa using z
      subst e
      exact absurd fa' hb
  · rintro v H' ⟨_, _, _, _, _, _, z⟩
    exact z.elim
  · rintro σ' H' ⟨_, _, _, _, _, z⟩
    exact z.elim
  · rintro σ' H' ⟨_, _, _, _, _, z⟩
    exact z.elim
end
section
variable {P : Program} {w : World} {K : PySem.W.Frag} {mg : Str → Option Value} {base : Heap} {x m q : Str} {st : Stmt} {N ps : List Str} {k n : Nat} {Cc : Addr}
theorem oi_init {C : List D → List Str × List D → Prop} (d : InitK K mg x Cc q st ps) (S : FnScope N ps (defScope st)) (hn : ps.length = n)
    (body : ∀ (f : Addr) (cdv : Value) (A : Around) (outer : List Env) (s : Shared) (H : Hp) (E : XK), Room k (A.deeper (envOfC q (defScope st) s.heap.objs.size f cdv)) → ∀ (a : Addr) (ds : List D) (r : List Str × List D), C ds r → ∀ B : Bs, B.M = [a] →
      W3 (cx0 P w K mg base N q st f cdv A outer s H E) B (defBody st) (startG N (.raw (.ref a) :: ds)) [(a, oIns K Cc [] [])] ⟨fun _ Ω => Ω = [(a, oIns K Cc r.1 r.2)], fun _ _ => False, fun _ _ => False, fun _ _ => False⟩) : OkI P w K mg base CX0 (k + 1) x Cc ps (spI K n Cc C) :=
  d.ok S (fun vs H Q E h => (spI.len h).trans hn.symm) fun f cdv A outer s H vs Q E hr h => reads_init (X := cx0 P w K mg base N q st f cdv A outer s H E) h (body f cdv A outer s H E hr)
end
section
variable {X : Cx} {Γ : Ga} {d : D} {ds gs : List D} {n k : Nat} {Cc : Addr} {fs : List Str} {x m : Str} {ps : List Str} {e o : Expr} {es : List Expr} {p pos apos : Pos}
theorem frozen_pur {F H F' H' : Hp} {p : Addr} {u : HO} (pu : Pur F H F' H') (hp : H p = none) (fp : F' p = none) (e : H' p = some u) : Pur F H (upd F' p u) H' ∧ Same F' (upd F' p u) := by
  have w : Same F' (upd F' p u) := fun b y q => by rw [upd_ne (ne_of_none q fp)]; exact q
  refine ⟨⟨pu.ff.trans w, fun b y q => ?_, pu.hh, fun b q => ?_⟩, w⟩
  · by_cases hb : b = p
    · subst hb; rw [upd_same] at q; cases q; exact e
    · rw [upd_ne hb] at q; exact pu.fh _ _ q
  · by_cases hb : b = p
    · subst hb; exact .inr hp
    · rw [upd_ne hb] at q; exact pu.new b q
theorem p_make {C : List D → List Str × List D → Prop} {r : List Str × List D} (ok : OkI X.prog X.w X.K X.mg X.base CX0 k x Cc ps (spI X.K n Cc C)) (hr : Room (k + 1) X.A) (hg : Gl X x) (ha : PL3 X Γ (e :: es) ds) (hC : C ds r) (hn : ds.length + 1 = n := by rfl) (hdb : (x == ("__debug__" : Str)) = false := by decide)
    (he : starEach (e :: es) X.env = (false, eval e X.env) :: starEach es X.env := by rfl) (hpl : (backTo pos (starEach es X.env)).any (·.1) = false := by rfl) : P3 X Γ (.Call (.Name x p) (e :: es) [] pos) (.obj Cc r.1 r.2) := by
  obtain ⟨f, fd, F, M, hm, hb⟩ := ok
  exact PE.of (pe_make M F hr hg hm hb .nil pass0 ha hdb he hpl) fun σ H Q ⟨F0, fh, sl, q⟩ => ⟨F0, fh, sl, fun vs H1 F1 p1 i1 a dx ha' hdx hne => by
    rw [List.append_nil]
    have f1 : F1 a = none := p1.fh.free ha'
    have sm : Same H1 (upd (upd H1 dx (.own a)) a (.ins Cc dx [])) := fun b u e1 => by
      rw [upd_ne (ne_of_none e1 ha'), upd_ne (ne_of_none e1 hdx)]
      exact e1
    refine ⟨a, vs, ds, r, F1, dx, rfl, hn, p1.fh.trans sm, f1, upd_same, i1, hC, fun H' F' dx' xs g1 g2 g3 g4 g5 g6 g7 g8 => ⟨rfl, ?_⟩⟩
    have pu : Pur F1 H1 F' H' := by
      refine ⟨g1, g2, fun b u e1 => g3 b u (ne_of_none e1 ha') (sm b u e1), fun b e1 => ?_⟩
      rcases g4 b e1 with z | z
      · exact .inl z
      · exact .inr (sm.free z)
    obtain ⟨pf, w⟩ := frozen_pur pu ha' g5 g6
    refine q _ _ _ (p1.trans pf) ?_
    simp only [Is]
    exact ⟨a, dx', xs, rfl, upd_same, g7, g8.mono w⟩⟩
end
end L3
set_option Elab.async false
set_option linter.all false
set_option maxRecDepth 100000
set_option maxHeartbeats 4000000
namespace L2
open PySem PySem.Spec PySem.Calls PyProof.Rows
abbrev K2 := Sum Key (List Key)
theorem kV_is {P : Program} {w : World} {k : Key} {u : Value} (r : RelV (kV k) u) : (mixKind P w).is k u = true := by
  cases k with
  | inl i => obtain ⟨t, q⟩ := (show ∃ t, u = Value.int i t from r); subst q; exact beq_self_eq_true i
  | inr x => obtain ⟨t, q⟩ := (show ∃ t, u = Value.str x t from r); subst q; exact beq_self_eq_true x
theorem items_are {P : Program} {w : World} : ∀ {ks : List Key} {us : List Value}, Vals (ks.map kV) us → ItemsAre (mixKind P w) ks us
  | [], _, h => by cases h; exact .nil
  | k :: ks, _, h => by
    cases h with
    | cons r t => exact .cons (kV_is r) (items_are t)
def TupOf (h : Heap) (ks : List Key) (a : Addr) : Prop := ∃ us : List Value, h.IsTuple a us.toArray ∧ Vals (ks.map kV) us
def ItOf (h : Heap) : K2 → Value → Prop
  | .inl k, v => RelV (kV k) v
  | .inr ks, v => ∃ a, v = .ref a ∧ TupOf h ks a
def Tup2 (h : Heap) (ks : List K2) (a : Addr) : Prop := ∃ us : List Value, h.IsTuple a us.toArray ∧ Paired (ItOf h) ks us
theorem TupOf.key {P : Program} {w : World} {h : Heap} {ks : List Key} {a : Addr} (x : TupOf h ks a) : IsTupleKey (mixKind P w) h ks a := by
  obtain ⟨us, ⟨o, e1, c1, n, d1⟩, r⟩ := x
  exact ⟨o, us.toArray, n, e1, c1, d1, by simpa using items_are r⟩
theorem IsTuple.one {h : Heap} {a : Addr} {us vs : List Value} (x : h.IsTuple a us.toArray) (y : h.IsTuple a vs.toArray) : us = vs := by
  obtain ⟨o, e1, c1, n, d1⟩ := x
  obtain ⟨o', e2, c2, n', d2⟩ := y
  rw [e1] at e2
  cases e2
  rw [d1] at d2
  injection d2 with z _
  injection z
theorem kV_inj {k k' : Key} {v : Value} (x : RelV (kV k) v) (y : RelV (kV k') v) : k = k' := by
  cases k <;> cases k' <;> obtain ⟨t1, e1⟩ := x <;> obtain ⟨t2, e2⟩ := y <;> rw [e1] at e2 <;> cases e2 <;> rfl
theorem Vals.keys_inj : ∀ {x y : List Key} {us : List Value}, Vals (x.map kV) us → Vals (y.map kV) us → x = y
  | [], [], _, _, _ => rfl
  | [], _ :: _, _, h1, h2 => by cases h1; cases h2
  | _ :: _, [], _, h1, h2 => by cases h2; cases h1
  | k :: ks, k' :: ks', _, h1, h2 => by
    cases h1 with
    | cons r1 t1 =>
      cases h2 with
      | cons r2 t2 => rw [kV_inj r1 r2, Vals.keys_inj t1 t2]
theorem TupOf.inj {h : Heap} {a : Addr} {x y : List Key} (p : TupOf h x a) (q : TupOf h y a) : x = y := by
  obtain ⟨us, t1, r1⟩ := p
  obtain ⟨vs, t2, r2⟩ := q
  cases IsTuple.one t1 t2
  exact r1.keys_inj r2
theorem ItOf.inj {h : Heap} {x y : K2} {v : Value} (p : ItOf h x v) (q : ItOf h y v) : x = y := by
  cases x with
  | inl k =>
    cases y with
    | inl k' => rw [kV_inj p q]
    | inr ks =>
      obtain ⟨a, rfl, _⟩ := q
      cases k <;> (obtain ⟨t, z⟩ := p; cases z)
  | inr ks =>
    cases y with
    | inl k =>
      obtain ⟨a, rfl, _⟩ := p
      cases k <;> (obtain ⟨t, z⟩ := q; cases z)
    | inr ks' =>
      obtain ⟨a, rfl, t1⟩ := p
      obtain ⟨b, z, t2⟩ := q
      cases z
      rw [t1.inj t2]
theorem Its2.inj {h : Heap} : ∀ {x y : List K2} {us : List Value}, Paired (ItOf h) x us → Paired (ItOf h) y us → x = y
  | [], [], _, _, _ => rfl
  | [], _ :: _, _, h1, h2 => by cases h1; cases h2
  | _ :: _, [], _, h1, h2 => by cases h2; cases h1
  | k :: ks, k' :: ks', _, h1, h2 => by
    cases h1 with
    | cons r1 t1 =>
      cases h2 with
      | cons r2 t2 => rw [ItOf.inj r1 r2, Its2.inj t1 t2]
theorem Tup2.inj {h : Heap} {a : Addr} {x y : List K2} (p : Tup2 h x a) (q : Tup2 h y a) : x = y := by
  obtain ⟨us, t1, r1⟩ := p
  obtain ⟨vs, t2, r2⟩ := q
  cases IsTuple.one t1 t2
  exact Its2.inj r1 r2
theorem tup_keeps {h h' : Heap} {a d : Addr} {us : Array Value} {o : Obj} {es ep} (x : h.IsTuple a us) (e : h.get? d = some o) (hd : o.data = .dict es ep) (sb : Heap.SameBut d h h') : h'.IsTuple a us := by
  obtain ⟨o', e1, c1, n, d1⟩ := x
  have ne : a ≠ d := fun z => by
    subst z
    rw [e] at e1
    cases e1
    rw [hd] at d1
    cases d1
  exact ⟨o', (sb.2 a ne).trans e1, c1, n, d1⟩
theorem TupOf.keeps {h h' : Heap} {ks : List Key} {a d : Addr} {o : Obj} {es ep} (x : TupOf h ks a) (e : h.get? d = some o) (hd : o.data = .dict es ep) (sb : Heap.SameBut d h h') : TupOf h' ks a := by
  obtain ⟨us, t1, r1⟩ := x
  exact ⟨us, tup_keeps t1 e hd sb, r1⟩
theorem Tup2.keeps {h h' : Heap} {ks : List K2} {a d : Addr} {o : Obj} {es ep} (x : Tup2 h ks a) (e : h.get? d = some o) (hd : o.data = .dict es ep) (sb : Heap.SameBut d h h') : Tup2 h' ks a := by
  obtain ⟨us, t1, r1⟩ := x
  refine ⟨us, tup_keeps t1 e hd sb, Paired.mapP r1 fun k v q => ?_⟩
  cases k with
  | inl k => exact q
  | inr ks =>
    obtain ⟨b, e1, t2⟩ := q
    exact ⟨b, e1, t2.keeps e hd sb⟩
section
variable {P : Program} {w : World} {A : Around} {E : Value → Shared → Prop} {s : Shared}
def h2 (P : Program) (w : World) : K2 → Int
  | .inl k => (mixKind P w).hash k
  | .inr ks => tupleKeyHash (mixKind P w) ks
def n2 : K2 → Nat
  | .inl _ => 1
  | .inr ks => ks.length + 1
def hash2 (P : Program) (w : World) (ks : List K2) : Int := reduceHash (Builtin.Tuple.tupleHashOf (ks.map (h2 P w)))
def draws2 (ks : List K2) : Nat := (ks.map n2).sum + 1
theorem hash_it {k : K2} {v : Value} {Q : Int → Shared → Prop} (hu : A.units < cLine) (x : ItOf s.heap k v) (q : Q (h2 P w k) { s with toks := s.toks + n2 k }) : wpAny (model P w) A (pyHash v) Q E s := by
  cases k with
  | inl k => exact (mixKind P w).pyHash (kV_is x) q
  | inr ks =>
    obtain ⟨a, rfl, t⟩ := x
    exact wpAny_pyHash_tuple hu (t.key (P := P) (w := w)) q
theorem hash_2 {ks : List K2} {a : Addr} {Q : Int → Shared → Prop} (hu : A.units + 1 < cLine) (x : Tup2 s.heap ks a) (q : Q (hash2 P w ks) { s with toks := s.toks + draws2 ks }) : wpAny (model P w) A (pyHash (.ref a)) Q E s := by
  obtain ⟨us, ⟨o, ho, hc, n, hd⟩, hi⟩ := x
  have hT : s.TypeIs (.ref a) "tuple" := ⟨o, ho, hc⟩
  have hu0 : A.units < cLine := by omega
  unfold pyHash
  first | unfold pyHashByItsType | skip
  first | refine wpAny_bind (wpAny_cRoomFor_or (.inr hu0) ?_) | skip
  refine wpAny_bind (wpAny_specialOf hT F.slot_tuple_hash.lookup ?_)
  show wpAny _ _ (if (some (Value.builtin "tuple.__hash__") == some Value.none) = true then _ else _) Q E s
  refine wpAny_ite_split (fun z => absurd z (by rw [beq_builtin_none]; exact Bool.false_ne_true)) fun _ => ?_
  refine wpAny_bind (wpAny_specialOf hT F.slot_tuple_hash.lookup ?_)
  show wpAny _ _ (callSpecialIfBoundUnlessNone? (.ref a) "__hash__" _ >>= _) Q E s
  refine wpAny_bind (wpAny_callSpecialIfBoundUnlessNone?_slot hT F.slot_tuple_hash (wpAny_call_entry F.slot_tuple_hash hT F.entry_tuple_hash ?_ (F.args_tuple_hash_1 _)))
  show wpAny _ _ (Builtin.Tuple.tupleItemsOf (.ref a) >>= _) _ _ s
  refine wpAny_bind (wpAny_tupleItemsOf ho hd (wpAny_bind ?_))
  rw [← Array.forIn_toList]
  refine wpAny_forIn_list _ (fun r (b : Array Int) t => ∃ ps qs, ks = ps ++ qs ∧ Paired (ItOf s.heap) qs r ∧ b.toList = ps.map (h2 P w) ∧ t = { s with toks := s.toks + (ps.map n2).sum }) _ ?_ ?_ _ _ ⟨[], ks, rfl, by simpa using hi, rfl, rfl⟩
  · rintro v r b t ⟨ps, qs, rfl, hl, hb, rfl⟩
    cases hl with
    | @cons k _ qs' _ h1 hl' =>
      refine wpAny_bind (hash_it (P := P) (w := w) (s := { s with toks := s.toks + (ps.map n2).sum }) (by first | exact hu | exact hu0) h1 ?_)
      first
        | exact wpAny_pure ⟨ps ++ [k], qs', by simp, hl', by simp [hb], by simp [Nat.add_assoc]⟩
        | exact wpAny_bind (wpAny_pure (wpAny_pure ⟨ps ++ [k], qs', by simp, hl', by simp [hb], by simp [Nat.add_assoc]⟩))
  · rintro b t ⟨ps, qs, rfl, hl, hb, rfl⟩
    cases hl
    rw [List.append_nil] at q
    show wpAny _ _ (retInt (Builtin.Tuple.tupleHashOf b.toList)) _ _ _
    rw [hb]
    refine wpAny_ret_mkInt ?_
    unfold hash2 reduceHash draws2 at q
    show wpAny _ _ (if (decide (-(2 : Int) ^ 63 ≤ Builtin.Tuple.tupleHashOf (ps.map (h2 P w))) && decide (Builtin.Tuple.tupleHashOf (ps.map (h2 P w)) < 2 ^ 63)) = true then _ else _) Q E _
    split
    · rename_i hr
      rw [if_pos hr] at q
      exact wpAny_pure (by simpa [Nat.add_assoc] using q)
    · rename_i hr
      rw [if_neg hr] at q
      exact wpAny_bind (wpAny_rule (wpAny_pure (by simpa [Nat.add_assoc] using q)))
theorem key_eq {k k' : Key} {u v : Value} (x : RelV (kV k) u) (y : RelV (kV k') v) : SeqAt.EqAt A s u v (decide (k = k')) := by
  cases k with
  | inl i =>
    obtain ⟨t, rfl⟩ := x
    cases k' with
    | inl j =>
      obtain ⟨t', rfl⟩ := y
      have z := SeqAt.EqAt.int_int (A := A) (s := s) i t j t'
      rwa [show (i == j) = decide ((Sum.inl i : Key) = .inl j) by rw [Bool.eq_iff_iff]; simp] at z
    | inr j =>
      obtain ⟨t', rfl⟩ := y
      have z := SeqAt.EqAt.int_str (A := A) (s := s) i t j t'
      rwa [show false = decide ((Sum.inl i : Key) = .inr j) by simp] at z
  | inr i =>
    obtain ⟨t, rfl⟩ := x
    cases k' with
    | inl j =>
      obtain ⟨t', rfl⟩ := y
      have z := SeqAt.EqAt.str_int (A := A) (s := s) i t j t'
      rwa [show false = decide ((Sum.inr i : Key) = .inl j) by simp] at z
    | inr j =>
      obtain ⟨t', rfl⟩ := y
      have z := SeqAt.EqAt.str_str (A := A) (s := s) i t j t'
      rwa [show (i == j) = decide ((Sum.inr i : Key) = .inr j) by rw [Bool.eq_iff_iff]; simp] at z
theorem tups_rc {α : Type} [DecidableEq α] {a b : Addr} {us vs : List Value} {xs ys : List α} (h1 : s.heap.IsTuple a us.toArray) (h2 : s.heap.IsTuple b vs.toArray) (l1 : xs.length = us.length) (l2 : ys.length = vs.length) (hu : A.units < cLine)
    (he : ∀ (j : Nat) (x y : α) (u v : Value), xs[j]? = some x → ys[j]? = some y → us[j]? = some u → vs[j]? = some v → SeqAt.EqAt A.in1 s u v (decide (x = y))) : SeqAt.RcAt A s (.ref a) (.ref b) (decide (xs = ys)) := by
  have z := SeqAt.RcAt.tuples (e := fun j => decide (xs[j]? = ys[j]?)) h1 h2 hu (fun j q1 q2 => by
    have p1 : j < us.length := by simpa using q1
    have p2 : j < vs.length := by simpa using q2
    have x1 : xs[j]? = some (xs[j]'(by omega)) := List.getElem?_eq_getElem _
    have y1 : ys[j]? = some (ys[j]'(by omega)) := List.getElem?_eq_getElem _
    have := he j _ _ us[j] vs[j] x1 y1 (List.getElem?_eq_getElem _) (List.getElem?_eq_getElem _)
    simpa [x1, y1] using this)
  rwa [show ((List.range (min us.toArray.size vs.toArray.size)).all (fun j => decide (xs[j]? = ys[j]?)) && us.toArray.size == vs.toArray.size) = decide (xs = ys) by
    rw [Bool.eq_iff_iff]
    simp only [List.size_toArray, Bool.and_eq_true, List.all_eq_true, List.mem_range, decide_eq_true_eq, beq_iff_eq]
    constructor
    · rintro ⟨e1, e2⟩
      refine List.ext_getElem? fun j => ?_
      by_cases hj : j < us.length
      · exact e1 j (by omega)
      · rw [List.getElem?_eq_none_iff.mpr (by omega), List.getElem?_eq_none_iff.mpr (by omega)]
    · intro e
      subst e
      exact ⟨fun _ _ => rfl, by omega⟩] at z
theorem TupOf.eq {x y : List Key} {a b : Addr} (p : TupOf s.heap x a) (q : TupOf s.heap y b) (hu : A.units < cLine) : SeqAt.EqAt A s (.ref a) (.ref b) (decide (x = y)) := by
  by_cases hab : a = b
  · subst hab
    cases p.inj q
    rw [decide_eq_true rfl]
    exact SeqAt.EqAt.same _
  · obtain ⟨us, t1, r1⟩ := p
    obtain ⟨vs, t2, r2⟩ := q
    have l1 := r1.length
    have l2 := r2.length
    rw [List.length_map] at l1 l2
    refine SeqAt.EqAt.of_refs hab (tups_rc t1 t2 l1 l2 hu fun j k k' u v e1 e2 e3 e4 => ?_)
    obtain ⟨u', z1, z2⟩ := r1.get (i := j) (by rw [List.getElem?_map, e1]; rfl)
    obtain ⟨v', z3, z4⟩ := r2.get (i := j) (by rw [List.getElem?_map, e2]; rfl)
    rw [e3] at z1
    cases z1
    rw [e4] at z3
    cases z3
    exact key_eq z2 z4
theorem ItOf.eq {x y : K2} {u v : Value} (p : ItOf s.heap x u) (q : ItOf s.heap y v) (hu : A.units < cLine) : SeqAt.EqAt A s u v (decide (x = y)) := by
  cases x with
  | inl k =>
    cases y with
    | inl k' =>
      have z := key_eq (A := A) (s := s) p q
      rwa [show decide (k = k') = decide ((Sum.inl k : K2) = .inl k') by rw [Bool.eq_iff_iff]; simp] at z
    | inr ks =>
      obtain ⟨b, rfl, vs, t2, r2⟩ := q
      rw [show decide ((Sum.inl k : K2) = .inr ks) = false by simp]
      cases k with
      | inl i => obtain ⟨t, rfl⟩ := p; exact SeqAt.EqAt.int_tuple i t t2 hu
      | inr i => obtain ⟨t, rfl⟩ := p; exact SeqAt.EqAt.str_tuple i t t2 hu
  | inr ks =>
    cases y with
    | inl k =>
      obtain ⟨b, rfl, vs, t2, r2⟩ := p
      rw [show decide ((Sum.inr ks : K2) = .inl k) = false by simp]
      cases k with
      | inl i => obtain ⟨t, rfl⟩ := q; exact SeqAt.EqAt.tuple_int i t t2 hu
      | inr i => obtain ⟨t, rfl⟩ := q; exact SeqAt.EqAt.tuple_str i t t2 hu
    | inr ks' =>
      obtain ⟨a, rfl, t1⟩ := p
      obtain ⟨b, rfl, t2⟩ := q
      have z := TupOf.eq (A := A) t1 t2 hu
      rwa [show decide (ks = ks') = decide ((Sum.inr ks : K2) = .inr ks') by rw [Bool.eq_iff_iff]; simp] at z
theorem pairs_get {α β : Type} {F : α → β → Prop} : ∀ {l : List α} {m : List β} {i : Nat} {x : α} {y : β}, Paired F l m → l[i]? = some x → m[i]? = some y → F x y
  | _, _, 0, _, _, .cons r t, h1, h2 => by simp at h1 h2; subst h1 h2; exact r
  | _, _, i + 1, _, _, .cons r t, h1, h2 => pairs_get (i := i) t (by simpa using h1) (by simpa using h2)
  | _, _, _, _, _, .nil, h1, _ => by simp at h1
theorem Tup2.eq {x y : List K2} {a b : Addr} (p : Tup2 s.heap x a) (q : Tup2 s.heap y b) (hu : A.units + 1 < cLine) : SeqAt.EqAt A s (.ref a) (.ref b) (decide (x = y)) := by
  by_cases hab : a = b
  · subst hab
    cases p.inj q
    rw [decide_eq_true rfl]
    exact SeqAt.EqAt.same _
  · obtain ⟨us, t1, r1⟩ := p
    obtain ⟨vs, t2, r2⟩ := q
    exact SeqAt.EqAt.of_refs hab (tups_rc t1 t2 (Paired.length r1) (Paired.length r2) (by omega) fun j k k' u v e1 e2 e3 e4 => ItOf.eq (pairs_get r1 e1 e3) (pairs_get r2 e2 e4) (show A.units + 1 < cLine from hu))
theorem quiet_tup {n : Nat} {a : Addr} {us : List Value} {Q : Bool → Shared → Prop} (t : s.heap.IsTuple a us.toArray) (hi : ∀ v ∈ us, ∀ Q' : Bool → Shared → Prop, Q' true s → wpAny (model P w) A (eqIsQuiet n v) Q' E s) (q : Q true s) : wpAny (model P w) A (eqIsQuiet (n + 1) (.ref a)) Q E s := by
  obtain ⟨o, ho, hc, m, hd⟩ := t
  have hT : s.TypeIs (.ref a) "tuple" := ⟨o, ho, hc⟩
  unfold eqIsQuiet
  refine wpAny_bind (wpAny_specialOf hT F.slot_tuple_eq.lookup ?_)
  show wpAny _ _ (isInstance (.ref a) (.type "tuple") >>= _) _ _ s
  refine wpAny_bind (wpAny_isInstance hT isSubtype_tuple_tuple ?_)
  simp only [Bool.not_true, Bool.false_eq_true, if_false]
  refine wpAny_bind (wpAny_seqItems ho hd (wpAny_bind ?_))
  show wpAny _ _ (forIn us.toArray _ _) _ _ s
  rw [← Array.forIn_toList]
  refine wpAny_forIn_list _ (fun r b t => b.1 = none ∧ t = s ∧ ∀ v ∈ r, v ∈ us) _ ?_ ?_ _ _ ⟨rfl, rfl, fun v hv => by simpa using hv⟩
  · rintro v r b t ⟨hb, rfl, hall⟩
    refine wpAny_bind (hi v (hall v (by simp)) _ ?_)
    simp only [Bool.not_true, Bool.false_eq_true, if_false]
    exact wpAny_pure ⟨rfl, rfl, fun u hu' => hall u (List.mem_cons_of_mem _ hu')⟩
  · rintro ⟨r1, r2⟩ t ⟨hr, rfl, _⟩
    simp only at hr
    subst hr
    exact wpAny_pure q
theorem paired_mem {α β : Type} {F : α → β → Prop} : ∀ {l : List α} {m : List β} {y : β}, Paired F l m → y ∈ m → ∃ x ∈ l, F x y
  | _, _, _, .nil, h => by simp at h
  | _, _, _, .cons r t, h => by
    rcases List.mem_cons.mp h with z | z
    · subst z; exact ⟨_, by simp, r⟩
    · obtain ⟨x, hx, hf⟩ := paired_mem t z
      exact ⟨x, List.mem_cons_of_mem _ hx, hf⟩
theorem rel_byValue {k : Key} {v : Value} (r : RelV (kV k) v) : carriedByValue v = true := by
  cases k <;> (obtain ⟨t, rfl⟩ := r; rfl)
theorem Tup2.quiet {ks : List K2} {a : Addr} {Q : Bool → Shared → Prop} (x : Tup2 s.heap ks a) (q : Q true s) : wpAny (model P w) A (eqIsQuiet 8 (.ref a)) Q E s := by
  obtain ⟨us, t1, r1⟩ := x
  refine quiet_tup t1 (fun v hv Q' q' => ?_) q
  obtain ⟨k, _, hk⟩ := paired_mem r1 hv
  cases k with
  | inl k => rw [eqIsQuiet_byValue _ (rel_byValue hk)]; exact wpAny_pure q'
  | inr ks' =>
    obtain ⟨b, rfl, vs, t2, r2⟩ := hk
    refine quiet_tup t2 (fun u hu Q2 q2 => ?_) q'
    obtain ⟨k', _, hk'⟩ := paired_mem r2 hu
    have : ∃ c : Key, RelV (kV c) u := by
      obtain ⟨i, hl, rfl⟩ := List.getElem_of_mem hu
      have hl' : i < ks'.length := by have := r2.length; rw [List.length_map] at this; omega
      obtain ⟨u', z1, z2⟩ := r2.get (i := i) (x := kV ks'[i]) (by rw [List.getElem?_map, List.getElem?_eq_getElem hl']; rfl)
      rw [List.getElem?_eq_getElem hl] at z1
      cases z1
      exact ⟨_, z2⟩
    obtain ⟨c, hc⟩ := this
    rw [eqIsQuiet_byValue _ (rel_byValue hc)]
    exact wpAny_pure q2
end
def kind2 (P : Program) (w : World) : HeapKind P w (List K2) where
  is := Tup2
  hash := hash2 P w
  draws := draws2
  room := fun A => A.units + 1 < cLine
  inj := fun p q => p.inj q
  keeps := fun x e hd sb => x.keeps e hd sb
  pyHash := fun hu x q => hash_2 hu x q
  eqBool := fun hu x y q => (Tup2.eq x y hu) _ _ _ _ q
  quiet := fun x q => x.quiet q
def dicO (P : Program) (w : World) (a : Addr) (xs : List (List K2 × Addr × Value)) : HO := .ext fun h => (a == sysModules) = false ∧ ∃ o es ep, h.get? a = some o ∧ o.ExactDict ∧ o.data = .dict es ep ∧ es.toList = xs.map (entryOfKey (kind2 P w)) ∧ (xs.map (·.1)).Nodup
theorem dicO_ok {P : Program} {w : World} {H : Hp} {h : Heap} {a : Addr} {xs : List (List K2 × Addr × Value)} (x : (a == sysModules) = false ∧ ∃ o es ep, h.get? a = some o ∧ o.ExactDict ∧ o.data = .dict es ep ∧ es.toList = xs.map (entryOfKey (kind2 P w)) ∧ (xs.map (·.1)).Nodup) : ObjOk P w H h a (dicO P w a xs) := by
  refine ⟨x, ?_, fun h1 h2 ⟨e0, o, es, ep, e, r⟩ k => ⟨e0, o, es, ep, k o e, r⟩⟩
  obtain ⟨_, o, _, _, e, _⟩ := x
  exact ⟨o, e⟩
theorem sizeOf_sys {X : Cx} {pins : List (Addr × Obj)} {σ : St} {H : Hp} {s : Shared} (I : Inv X pins σ H s) : sysModules < s.heap.objs.size := by
  have h : mainGlobals < s.heap.objs.size := (I.mod.glob.keeps I.bk).lt
  exact Nat.lt_trans (by decide) h
end L2
set_option Elab.async false
set_option linter.all false
set_option maxRecDepth 100000
set_option maxHeartbeats 4000000
namespace L3
open PySem PySem.Spec PySem.Calls PyProof.Rows L2
def keyD : Key → D
  | .inl i => .int i
  | .inr x => .str x
def k2D : K2 → D
  | .inl k => keyD k
  | .inr ks => .tup (ks.map keyD)
def kD (ks : List K2) : D := .tup (ks.map k2D)
theorem is_key {K : PySem.W.Frag} {F : Hp} {k : Key} {v : V} (h : Is K F (keyD k) v) : v = kV k := by
  cases k with
  | inl i => exact isI h
  | inr x => exact isS h
theorem is_keys {K : PySem.W.Frag} {F : Hp} : ∀ {ks : List Key} {xs : List V}, IsL K F (ks.map keyD) xs → xs = ks.map kV
  | [], _, h => by simp only [List.map_nil, IsL] at h; subst h; rfl
  | k :: ks, _, h => by
    simp only [List.map_cons, IsL] at h
    obtain ⟨x, r, rfl, h1, h2⟩ := h
    rw [is_key h1, is_keys h2]; rfl
section
variable {X : Cx} {pins : List (Addr × Obj)} {σ : L2.St} {H : Hp} {s : Shared}
theorem it_at (I : Inv X pins σ H s) {k : K2} {x : V} {u : Value} (h : Is X.K H (k2D k) x) (r : RelV x u) : ItOf s.heap k u := by
  cases k with
  | inl k =>
    rw [is_key h] at r
    exact r
  | inr ks =>
    obtain ⟨a, xs, rfl, s1, il⟩ := isT h
    obtain ⟨us, rv, t1, _⟩ := I.tuple s1
    rw [is_keys il] at rv
    exact ⟨a, r, us, t1, rv⟩
theorem its_at (I : Inv X pins σ H s) : ∀ {ks : List K2} {xs : List V} {us : List Value}, IsL X.K H (ks.map k2D) xs → Vals xs us → Paired (ItOf s.heap) ks us
  | [], _, _, h, r => by
    simp only [List.map_nil, IsL] at h
    subst h
    cases r
    exact .nil
  | k :: ks, _, _, h, r => by
    simp only [List.map_cons, IsL] at h
    obtain ⟨x, r', rfl, h1, h2⟩ := h
    cases r with
    | cons a b => exact .cons (it_at I h1 a) (its_at I h2 b)
theorem key_at (I : Inv X pins σ H s) {ks : List K2} {a : Addr} (h : Is X.K H (kD ks) (.ref a)) : Tup2 s.heap ks a := by
  obtain ⟨a', xs, e, s1, il⟩ := isT h
  cases e
  obtain ⟨us, rv, t1, _⟩ := I.tuple s1
  exact ⟨us, t1, its_at I il rv⟩
end
abbrev DP (K : PySem.W.Frag) (F : Hp) : List (List K2 × D) → List (List K2 × Addr × Value) → Prop := Paired fun p q => p.1 = q.1 ∧ Is K F (kD q.1) (.ref q.2.1) ∧ ∃ v, RelV v q.2.2 ∧ Is K F p.2 v
def atD (kvs : List (List K2 × D)) (k : List K2) : Option D := (kvs.find? fun p => decide (p.1 = k)).map (·.2)
def putD (kvs : List (List K2 × D)) (k : List K2) (d : D) : List (List K2 × D) := if (atD kvs k).isSome = true then kvs.map fun p => if p.1 = k then (p.1, d) else p else kvs ++ [(k, d)]
theorem DP.mono {K : PySem.W.Frag} {F F' : Hp} {kvs : List (List K2 × D)} {xs : List (List K2 × Addr × Value)} (h : DP K F kvs xs) (e : Same F F') : DP K F' kvs xs := Paired.mapP h fun p q ⟨h1, h2, v, r, i⟩ => ⟨h1, h2.mono e, v, r, i.mono e⟩
theorem DP.at {K : PySem.W.Frag} {F : Hp} {k : List K2} : ∀ {kvs : List (List K2 × D)} {xs : List (List K2 × Addr × Value)}, DP K F kvs xs → (atKey xs k = none ∧ atD kvs k = none) ∨ ∃ p d v, atKey xs k = some p ∧ atD kvs k = some d ∧ RelV v p.2 ∧ Is K F d v
  | _, _, .nil => .inl ⟨rfl, rfl⟩
  | _, _, @Paired.cons _ _ _ p q ps qs ⟨h1, h2, v, r, i⟩ t => by
    by_cases e : p.1 = k
    · have e' : q.1 = k := h1.symm.trans e
      exact .inr ⟨q.2, p.2, v, by simp [atKey, List.find?_cons, e'], by simp [atD, List.find?_cons, e], r, i⟩
    · have e' : ¬ q.1 = k := fun z => e (h1.trans z)
      have ih := DP.at (k := k) t
      rwa [show atKey qs k = atKey (q :: qs) k by simp [atKey, List.find?_cons, e'], show atD ps k = atD (p :: ps) k by simp [atD, List.find?_cons, e]] at ih
theorem DP.some_eq {K : PySem.W.Frag} {F : Hp} {k : List K2} {kvs : List (List K2 × D)} {xs : List (List K2 × Addr × Value)} (h : DP K F kvs xs) : (atKey xs k).isSome = (atD kvs k).isSome := by
  rcases h.at (k := k) with ⟨e1, e2⟩ | ⟨p, d, v, e1, e2, _⟩
  · rw [e1, e2]; rfl
  · rw [e1, e2]; rfl
theorem DP.put {K : PySem.W.Frag} {F : Hp} {k : List K2} {kvs : List (List K2 × D)} {xs : List (List K2 × Addr × Value)} {a : Addr} {d : D} {v : V} {u : Value} (h : DP K F kvs xs) (hk : Is K F (kD k) (.ref a)) (r : RelV v u) (i : Is K F d v) : DP K F (putD kvs k d) (storedH xs k a u) := by
  unfold putD storedH
  rw [h.some_eq]
  split
  · have go : ∀ {ps : List (List K2 × D)} {qs : List (List K2 × Addr × Value)}, DP K F ps qs → DP K F (ps.map fun p => if p.1 = k then (p.1, d) else p) (qs.map (putAt k u)) := by
      intro ps qs t
      induction t with
      | nil => exact .nil
      | @cons p q ps qs hh t ih =>
        obtain ⟨h1, h2, v', r', i'⟩ := hh
        rw [List.map_cons, List.map_cons]
        refine .cons ?_ ih
        unfold putAt
        by_cases e : p.1 = k
        · rw [if_pos e, if_pos (h1.symm.trans e)]
          exact ⟨h1, h2, v, r, i⟩
        · rw [if_neg e, if_neg fun z => e (h1.trans z)]
          exact ⟨h1, h2, v', r', i'⟩
    exact go h
  · exact Paired.snoc h ⟨rfl, hk, v, r, i⟩
def oDic (P : Program) (w : World) (K : PySem.W.Frag) (a : Addr) (kvs : List (List K2 × D)) : Ow := fun F o => ∃ xs, o = dicO P w a xs ∧ DP K F kvs xs
section
variable {X : Cx} {pins : List (Addr × Obj)} {σ : L2.St} {H : Hp} {s : Shared} {l : Addr} {xs : List (List K2 × Addr × Value)} {kvs : List (List K2 × D)}
theorem dic_of (I : Inv X pins σ H s) (e : H l = some (dicO X.prog X.w l xs)) (h : DP X.K H kvs xs) : (l == sysModules) = false ∧ s.heap.DictOfH (kind2 X.prog X.w) l xs := by
  obtain ⟨⟨h0, o, es, ep, h1, h2, h3, h4, h5⟩, _⟩ := (show ObjOk X.prog X.w H s.heap l (dicO X.prog X.w l xs) from I.hok l _ e)
  refine ⟨h0, o, es, ep, h1, h2, h3, h4, fun x hx => ?_, h5⟩
  obtain ⟨p, _, hp⟩ := paired_mem h hx
  exact key_at I hp.2.1
end
def rInD (X : Cx) (neg : Bool) : R2 := fun x y H Q => ∃ b l ks kvs xs, x = .ref b ∧ Is X.K H (kD ks) x ∧ y = .ref l ∧ H l = some (dicO X.prog X.w l xs) ∧ DP X.K H kvs xs ∧ Q (.bl (if neg then !(atD kvs ks).isSome else (atD kvs ks).isSome)) H
def rSetD (X : Cx) : TSet := fun o i v H Q => ∃ l b ks kvs xs d, o = .ref l ∧ i = .ref b ∧ Is X.K H (kD ks) i ∧ H l = some (dicO X.prog X.w l xs) ∧ DP X.K H kvs xs ∧ kvs.length < sizeLine ∧ Is X.K H d v ∧ ∀ u, RelV v u → Q (upd H l (dicO X.prog X.w l (storedH xs ks b u)))
section
variable {X : Cx}
theorem op_inD (hu : X.A.units + 64 < cLine) : OpR X (compareOp .In) (rInD X false) := by
  rintro pins s σ H x y v u Q I rx ry ⟨b, l, ks, kvs, xs, rfl, hk, rfl, hl, dp, q⟩
  cases rx
  cases ry
  obtain ⟨h0, dd⟩ := dic_of I hl dp
  refine wpAny_in_heap (show X.A.units + 1 + 1 < cLine by omega) (key_at I hk) h0 dd ?_
  rw [dp.some_eq]
  exact ⟨.bl _, H, I.tok _, rfl, q⟩
theorem set_dic (hu : X.A.units + 64 < cLine) : PSet X (rSetD X) := by
  rintro pins s σ H o i v ov iv u Q I ro ri rv ⟨l, b, ks, kvs, xs, d, rfl, rfl, hk, hl, dp, hz, hd, q⟩
  cases ro
  cases ri
  obtain ⟨h0, dd⟩ := dic_of I hl dp
  have hx : xs.length ≤ sizeLine := by rw [← Paired.length dp]; omega
  refine wpAny_setItem_heap (hsz := hx) (show X.A.units + 1 + 1 < cLine by omega) (key_at I hk) dd fun h' dd' hs => ⟨_, ?_, q u rv⟩
  obtain ⟨o', es, ep, z1, z2, z3, z4, _, z5⟩ := dd'
  exact I.write (x := l) (e := l) (by rw [hl]; exact True.intro) (.inl rfl) (fun c q hb z => (hs.2 c hb).trans z) ⟨o', z1⟩ (dicO_ok ⟨h0, o', es, ep, z1, z2, z3, z4, z5⟩)
theorem pe_dnew2 {pos : Pos} : PE X (.Dict [] [] pos) (fun _ H Q => ∀ p, H p = none → Q (.ref p) (upd H p (dicO X.prog X.w p []))) := fun pins s σ H Q I h =>
  wpAny_Dict_empty ⟨.ref s.heap.objs.size, _, I.laid (a := s.heap.objs.size) (o := dicO X.prog X.w s.heap.objs.size []) (t' := s.toks) (fun _ _ q => Heap.get?_push_of_some _ q) (Nat.le_refl _)
    (dicO_ok ⟨beq_eq_false_iff_ne.mpr (Ne.symm (Nat.ne_of_lt (sizeOf_sys I))), _, #[], 0, Heap.get?_push_size _ rfl, ⟨rfl, rfl, rfl⟩, rfl, rfl, List.nodup_nil⟩), rfl, h _ (I.hok.fresh (Nat.le_refl _))⟩
end
section
variable {X : Cx} {B : Bs} {Γ : Ga} {Ω : Om} {E : E3} {rest : List Stmt} {a b e o i : Expr} {pos pos' spos tpos : Pos} {R : D → Om → Prop} {RT : Bool → Om → Prop} {x : Str}
theorem v_dnew (r : ∀ l, R (.raw (.ref l)) ((l, oDic X.prog X.w X.K l []) :: Ω)) : V3 X B (.Dict [] [] pos) Γ Ω R := fun F σ H S pins s I =>
  pe_dnew2 pins s σ H _ I fun l hl => ⟨.raw (.ref l), _, F, S.new (Pur.layOwn S.fh hl) hl (S.fh.free hl) upd_same (fun F2 _ => ⟨[], rfl, .nil⟩), Same.refl _, i_raw F, r l⟩
theorem inD_own {neg : Bool} {F : Hp} {σ : L2.St} {H : Hp} {ks : List K2} {l : Addr} {kvs : List (List K2 × D)} {x y : V} {Q : VK} (S : Sat X.K B Γ Ω F σ H) (i1 : Is X.K F (kD ks) x) (i2 : Is X.K F (.raw (.ref l)) y) (m : (l, oDic X.prog X.w X.K l kvs) ∈ Ω)
    (q : Q (.bl (if neg then !(atD kvs ks).isSome else (atD kvs ks).isSome)) H) : rInD X neg x y H Q := by
  cases isR i2
  obtain ⟨fa, o', ha, ho⟩ := S.own _ m
  obtain ⟨xs, rfl, dp⟩ := ho F (Same.refl _)
  obtain ⟨c, _, rfl, _⟩ := isT i1
  exact ⟨c, l, ks, kvs, xs, rfl, i1.mono S.fh, rfl, ha, dp.mono S.fh, q⟩
theorem vt_inD (hu : X.A.units + 64 < cLine) (h : V3 X B a Γ Ω fun d Ω1 => ∃ ks, d = kD ks ∧ V3 X B b Γ Ω1 fun d' Ω2 => ∃ l kvs, d' = .raw (.ref l) ∧ (l, oDic X.prog X.w X.K l kvs) ∈ Ω2 ∧ RT (atD kvs ks).isSome Ω2)
    (hm : behindInMarks .In b = false := by first | exact nomark _ | with_unfolding_all rfl) : VT3 X B (.Compare a [.In] [b] pos) Γ Ω RT := fun F σ H S pins s I =>
  pt_cmpR (op_inD hu) pe_w pe_w hm pins s σ H _ I ((h F σ H S).mono fun x H1 ⟨d, Ω1, F1, S1, f1, i1, ks, e1, h1⟩ => (h1 F1 σ H1 S1).mono fun y H2 ⟨d', Ω2, F2, S2, f2, i2, l, kvs, e2, m, q⟩ => by
    subst e1 e2
    exact inD_own S2 (i1.mono f2) i2 m ⟨_, rfl, Ω2, F2, S2, f1.trans f2, q⟩)
theorem w_setD (hu : X.A.units + 64 < cLine) (h : V3 X B e Γ Ω fun d Ω1 => V3 X B o Γ Ω1 fun dq Ω2 => ∃ l, dq = .raw (.ref l) ∧ V3 X B i Γ Ω2 fun di Ω3 => ∃ ks kvs Ω4, di = kD ks ∧ Ω3.Perm ((l, oDic X.prog X.w X.K l kvs) :: Ω4) ∧ kvs.length < sizeLine ∧ W3 X B rest Γ ((l, oDic X.prog X.w X.K l (putD kvs ks d)) :: Ω4) E)
    (hs : swapsWithSole [.Subscript o i tpos] e spos.line X.env = pure false := by rfl) (hw : swappedStores [.Subscript o i tpos] e X.env = pure none := by rfl) (h1 : (assignEach [.Subscript o i tpos] X.env).map (·.2) = [assign (.Subscript o i tpos) X.env] := by rfl)
    (ha : ∀ v, assign (.Subscript o i tpos) X.env v = (do
      let ov ← holding [v] (eval o X.env)
      let iv ← holding [v, ov] (eval i X.env)
      standAt tpos
      holding [v, ov, iv] (setItem ov iv v)
      release [v, ov, iv] []) := by intro _; rfl) : W3 X B (.Assign [.Subscript o i tpos] e spos :: rest) Γ Ω E := fun F σ H S pins s I =>
  pss_cons (ps_asg pe_w (pg_sub pe_w pe_w (set_dic hu) ha) hs hw h1) pss_w pins s σ H _ I ((h F σ H S).mono fun v H1 ⟨d, Ω1, F1, S1, f1, i1, h1⟩ => (h1 F1 σ H1 S1).mono fun y H2 ⟨dq, Ω2, F2, S2, f2, i2, l, e2, h2⟩ => (h2 F2 σ H2 S2).mono fun z H3 ⟨di, Ω3, F3, S3, f3, i3, ks, kvs, Ω4, e3, pm, hz, h3⟩ => by
    subst e2 e3
    cases isR i2
    have S4 := S3.perm pm.symm
    obtain ⟨fa, o', ha', ho⟩ := S4.own (l, oDic X.prog X.w X.K l kvs) (by simp)
    obtain ⟨xs, rfl, dp⟩ := ho F3 (Same.refl _)
    obtain ⟨c, _, rfl, _⟩ := isT i3
    refine ⟨l, c, ks, kvs, xs, d, rfl, rfl, i3.mono S3.fh, ha', dp.mono S3.fh, hz, (i1.mono (f2.trans f3)).mono S3.fh, fun u ru => ?_⟩
    exact to_mono (f1.trans (f2.trans f3)) (h3 F3 σ _ (S4.turn fun F5 e5 => ⟨_, rfl, DP.put (dp.mono e5) (i3.mono e5) ru (i1.mono (f2.trans (f3.trans e5)))⟩)))
end
end L3
set_option Elab.async false
set_option linter.all false
set_option maxRecDepth 100000
set_option maxHeartbeats 4000000
namespace L3
open PySem PySem.Spec PySem.Calls PyProof.Rows L2
section
variable {X : Cx} {Γ : Ga} {a b c : Expr} {pos : Pos} {x y z : Str}
theorem p_fvR (h : P3 X Γ a (.str x)) (hz : (reprText x).length ≤ sizeLine) : P3 X Γ (.FormattedValue a 114 none pos) (.str (reprText x)) := fun pins s σ H Q I ⟨F, fh, sl, k⟩ => by
  refine wpAny_FormattedValue_repr (thn (h pins s σ H (fun v H' => v = .str x ∧ ∃ F', Pur F H F' H') I ⟨F, fh, sl, fun v H' F' p i => ⟨isS i, F', p⟩⟩) fun u s1 ⟨v, H1, I1, r1, e1, F1, p1⟩ => ?_)
  subst e1
  obtain ⟨t, rfl⟩ := r1
  refine wpAny_pyReprObj_str (PyProof.Rows.formatField_str (fun t' tk => ?_) hz) hz
  exact ⟨.str _, H1, I1.tok _, ⟨_, rfl⟩, k _ _ _ p1 (i_str F1)⟩
theorem p_fv (h : P3 X Γ a (.str x)) (hz : x.length ≤ sizeLine) : P3 X Γ (.FormattedValue a (-1) none pos) (.str x) := fun pins s σ H Q I ⟨F, fh, sl, k⟩ => by
  refine PyProof.Rows.FormattedValue_plain (thn (h pins s σ H (fun v H' => v = .str x ∧ ∃ F', Pur F H F' H') I ⟨F, fh, sl, fun v H' F' p i => ⟨isS i, F', p⟩⟩) fun u s1 ⟨v, H1, I1, r1, e1, F1, p1⟩ => ?_)
  subst e1
  obtain ⟨t, rfl⟩ := r1
  refine PyProof.Rows.formatField_str (fun t' tk => ?_) hz
  exact ⟨.str _, H1, I1.tok _, ⟨_, rfl⟩, k _ _ _ p1 (i_str F1)⟩
theorem len_app {p q : Str} : (p ++ q).length = p.length + q.length := strLen_append p q
theorem p_join2 (ha : P3 X Γ a (.str x)) (hb : P3 X Γ b (.str y)) (hz : x.length + y.length ≤ sizeLine) : P3 X Γ (.JoinedStr [a, b] pos) (.str (Str.empty ++ x ++ y)) := fun pins s σ H Q I ⟨F, fh, sl, k⟩ => by
  have e0 : Str.empty.length = 0 := rfl
  refine wpAny_JoinedStr ?_
  show wpAny (model X.prog X.w) X.A (eval a X.env) (fun v s₁ => ∃ z t, v = .str z t ∧ (Str.empty ++ z).length ≤ sizeLine ∧ wpAny (model X.prog X.w) X.A (eval b X.env) (fun v s₂ => ∃ z' t', v = .str z' t' ∧ (Str.empty ++ z ++ z').length ≤ sizeLine ∧ (Str.empty ++ z ++ z').length ≤ sizeLine ∧ EP X pins σ Q (.str (Str.empty ++ z ++ z') s₂.toks) { s₂ with toks := s₂.toks + 1 }) X.xe s₁) X.xe s
  refine thn (ha pins s σ H (fun v H' => v = .str x ∧ ∃ F', Pur F H F' H') I ⟨F, fh, sl, fun v H' F' p i => ⟨isS i, F', p⟩⟩) fun u s1 ⟨v, H1, I1, r1, e1, F1, p1⟩ => ?_
  subst e1
  obtain ⟨t1, rfl⟩ := r1
  refine ⟨x, t1, rfl, by rw [len_app]; omega, thn (hb pins s1 σ H1 (fun v H' => v = .str y ∧ ∃ F', Pur F H F' H') I1 ⟨F1, p1.fh, sl.mono p1.ff, fun v H' F' p i => ⟨isS i, F', p1.trans p⟩⟩) fun u s2 ⟨v, H2, I2, r2, e2, F2, p2⟩ => ?_⟩
  subst e2
  obtain ⟨t2, rfl⟩ := r2
  have hl : (Str.empty ++ x ++ y).length ≤ sizeLine := by rw [len_app, len_app]; omega
  exact ⟨y, t2, rfl, hl, hl, .str _, H2, I2.tok _, ⟨_, rfl⟩, k _ _ _ p2 (i_str F2)⟩
theorem p_join3 (ha : P3 X Γ a (.str x)) (hb : P3 X Γ b (.str y)) (hc : P3 X Γ c (.str z)) (hz : x.length + y.length + z.length ≤ sizeLine) : P3 X Γ (.JoinedStr [a, b, c] pos) (.str (Str.empty ++ x ++ y ++ z)) := fun pins s σ H Q I ⟨F, fh, sl, k⟩ => by
  have e0 : Str.empty.length = 0 := rfl
  refine wpAny_JoinedStr ?_
  show wpAny (model X.prog X.w) X.A (eval a X.env) (fun v s₁ => ∃ z t, v = .str z t ∧ (Str.empty ++ z).length ≤ sizeLine ∧ wpAny (model X.prog X.w) X.A (eval b X.env) (fun v s₂ => ∃ z' t', v = .str z' t' ∧ (Str.empty ++ z ++ z').length ≤ sizeLine ∧
    wpAny (model X.prog X.w) X.A (eval c X.env) (fun v s₃ => ∃ z2 t2, v = .str z2 t2 ∧ (Str.empty ++ z ++ z' ++ z2).length ≤ sizeLine ∧ (Str.empty ++ z ++ z' ++ z2).length ≤ sizeLine ∧ EP X pins σ Q (.str (Str.empty ++ z ++ z' ++ z2) s₃.toks) { s₃ with toks := s₃.toks + 1 }) X.xe s₂) X.xe s₁) X.xe s
  refine thn (ha pins s σ H (fun v H' => v = .str x ∧ ∃ F', Pur F H F' H') I ⟨F, fh, sl, fun v H' F' p i => ⟨isS i, F', p⟩⟩) fun u s1 ⟨v, H1, I1, r1, e1, F1, p1⟩ => ?_
  subst e1
  obtain ⟨t1, rfl⟩ := r1
  refine ⟨x, t1, rfl, by rw [len_app]; omega, thn (hb pins s1 σ H1 (fun v H' => v = .str y ∧ ∃ F', Pur F H F' H') I1 ⟨F1, p1.fh, sl.mono p1.ff, fun v H' F' p i => ⟨isS i, F', p1.trans p⟩⟩) fun u s2 ⟨v, H2, I2, r2, e2, F2, p2⟩ => ?_⟩
  subst e2
  obtain ⟨t2, rfl⟩ := r2
  refine ⟨y, t2, rfl, by rw [len_app, len_app]; omega, thn (hc pins s2 σ H2 (fun v H' => v = .str z ∧ ∃ F', Pur F H F' H') I2 ⟨F2, p2.fh, sl.mono p2.ff, fun v H' F' p i => ⟨isS i, F', p2.trans p⟩⟩) fun u s3 ⟨v, H3, I3, r3, e3, F3, p3⟩ => ?_⟩
  subst e3
  obtain ⟨t3, rfl⟩ := r3
  have hl : (Str.empty ++ x ++ y ++ z).length ≤ sizeLine := by rw [len_app, len_app, len_app]; omega
  exact ⟨z, t3, rfl, hl, hl, .str _, H3, I3.tok _, ⟨_, rfl⟩, k _ _ _ p3 (i_str F3)⟩
end
theorem repr_fit {x : Str} (h : x.length ≤ 100) (ha : ∀ c ∈ x.cps.toList, c < 128) : (reprText x).length ≤ 1002 := by
  have := StrLaws.reprText_len x fun c hc => Nat.lt_trans (ha c hc) (by decide)
  omega
def spIX (K : PySem.W.Frag) (n : Nat) (Cc : Addr) (C : List D → Addr → Prop) : Sp := fun vs H _ E => ∃ (a : Addr) (us : List V) (ds : List D) (c : Addr) (F : Hp) (dx : Addr), vs = .ref a :: us ∧ ds.length + 1 = n ∧ Same F H ∧ F a = none ∧ H a = some (.ins Cc dx []) ∧ IsL K F ds us ∧ C ds c ∧
  ∀ (H' F' : Hp), Same F F' → Same F' H' → (∀ b o, b ≠ a → H b = some o → H' b = some o) → (∀ b, F' b ≠ none → F b ≠ none ∨ H b = none ∨ b = a) → E (.ref c) none H'
theorem spIX.len {K : PySem.W.Frag} {n : Nat} {Cc : Addr} {C : List D → Addr → Prop} {vs : List V} {H : Hp} {Q : VK} {E : XK} (h : spIX K n Cc C vs H Q E) : vs.length = n := by
  obtain ⟨a, us, ds, r, F, dx, rfl, l, _, _, _, i, _⟩ := h
  rw [List.length_cons, i.len, l]
section
variable {P : Program} {w : World} {K : PySem.W.Frag} {mg : Str → Option Value} {base : Heap} {x q : Str} {st : Stmt} {N ps : List Str} {k n : Nat} {Cc : Addr}
theorem oi_raises {C : List D → Addr → Prop} (d : InitK K mg x Cc q st ps) (S : FnScope N ps (defScope st)) (hn : ps.length = n)
    (body : ∀ (f : Addr) (cdv : Value) (A : Around) (outer : List Env) (s : Shared) (H : Hp) (E : XK), Room k (A.deeper (envOfC q (defScope st) s.heap.objs.size f cdv)) → ∀ (a : Addr) (ds : List D) (c : Addr), C ds c → ∀ B : Bs, B.M = [a] → (∀ Γ Ω F' σ H', Sat K B Γ Ω F' σ H' → E (.ref c) none H') →
      W3 (cxX P w K mg base N q st f cdv A outer s H E) B (defBody st) (startG N (.raw (.ref a) :: ds)) [(a, oIns K Cc [] [])] ⟨fun _ _ => False, fun _ _ => False, fun _ _ => False, fun _ _ => False⟩) : OkI P w K mg base (CXo P w) (k + 1) x Cc ps (spIX K n Cc C) := by
  refine d.okX S (fun vs H Q E h => (spIX.len h).trans hn.symm) fun f cdv A outer s H vs Q E hr h => ⟨_, pss_w, ?_⟩
  obtain ⟨a, us, ds, c, F, dx, rfl, hl, fh, fa, ha, il, hC, q⟩ := h
  have il' : IsL K F (.raw (.ref a) :: ds) (.ref a :: us) := IsL.cons (i_raw F) il
  have S0 : Sat K ⟨[a], F, H⟩ (startG N (.raw (.ref a) :: ds)) [(a, oIns K Cc [] [])] F (L2.start N (.ref a :: us)) H := by
    refine ⟨Same.refl _, fh, fun _ q => .inl q, fun _ _ _ e => e, by simp, fun p hp => ?_, fun p hp => ?_, Sl.start il'⟩
    · rw [List.mem_singleton.mp hp]; exact .inl (by simp)
    · rw [List.mem_singleton.mp hp]; exact ⟨fa, _, ha, fun _ _ => ⟨dx, [], rfl, rfl, IsL.nil⟩⟩
  refine ends_mono (D := E3.to K ⟨[a], F, H⟩ F ⟨fun _ _ => False, fun _ _ => False, fun _ _ => False, fun _ _ => False⟩) (D' := { nx := fun _ H' => Q .non H', rt := Q }) ?_ ?_ ?_ ?_ (body f cdv A outer s H E hr a ds c hC ⟨[a], F, H⟩ rfl (fun Γ Ω F' σ H' S' => q H' F' S'.f0 S'.fh (fun b o hb e => S'.kp b o (by simpa using hb) e) fun b hb => ?_) F _ H S0)
  · rintro σ' H' ⟨_, _, _, _, _, z⟩
    exact z.elim
  · rintro v H' ⟨_, _, _, _, _, _, z⟩
    exact z.elim
  · rintro σ' H' ⟨_, _, _, _, _, z⟩
    exact z.elim
  · rintro σ' H' ⟨_, _, _, _, _, z⟩
    exact z.elim
  · rcases S'.fr b hb with z | z | z
    · exact .inl z
    · exact .inr (.inl z)
    · exact .inr (.inr (by simpa using z))
end
end L3
set_option Elab.async false
set_option linter.all false
set_option maxRecDepth 100000
set_option maxHeartbeats 4000000
namespace L2
open PySem PySem.Spec PySem.Calls PyProof.Rows
end L2
namespace L3
open PySem PySem.Spec PySem.Calls PyProof.Rows L2
def repS (x : Str) (n : Nat) : Str := ⟨(List.replicate n x.cps.toList).flatten.toArray⟩
theorem fold_cps (x : Array Nat) : ∀ (n : Nat) (acc : Array Nat), ((List.replicate n x).foldl (· ++ ·) acc).toList = acc.toList ++ (List.replicate n x.toList).flatten
  | 0, acc => by simp
  | n + 1, acc => by
    rw [List.replicate_succ, List.foldl_cons, fold_cps x n, List.replicate_succ, List.flatten_cons, Array.toList_append, List.append_assoc]
section
variable {X : Cx} {B : Bs} {Γ : Ga} {Ω : Om} {E : E3} {rest : List Stmt} {a b e : Expr} {es : List Expr} {pos p : Pos} {ds gs : List D} {x : Str} {k n : Nat} {R : D → Om → Prop}
theorem p_repS (ha : P3 X Γ a (.str x)) (hb : P3 X Γ b (.int (k : Int))) (h2 : k ≤ 100) (h4 : x.length ≤ 100) : P3 X Γ (.BinOp a .Mult b pos) (.str (repS x k)) :=
  p_opR (r := fun v w H Q => v = .str x ∧ w = .int (k : Int) ∧ Q (.str (repS x k)) H) (by
    rintro pins s σ H v w u1 u2 Q I rx ry ⟨rfl, rfl, q⟩
    obtain ⟨t1, rfl⟩ := rx
    obtain ⟨t2, rfl⟩ := ry
    have bd : x.length * k ≤ 100 * 100 := Nat.mul_le_mul h4 h2
    refine PySem.P.mul_str (by rw [decide_eq_false (by omega), decide_eq_false (by omega)]; rfl) (fun g1 g2 => ?_) (fun g1 g2 => ?_) ?_
    · have : 0 < (k : Int) := by omega
      have h5 : (x.length : Int) * k ≤ 10000 := by exact_mod_cast bd
      have : (10000 : Int) ≤ (2 ^ 63 - 1) / (k : Int) := by
        rw [Int.le_ediv_iff_mul_le this]
        have : (k : Int) ≤ 100 := by omega
        omega
      omega
    · rw [Int.toNat_natCast]
      unfold PySem.Builtin.Str.tooLong
      rw [sizeLine_eq, decide_eq_false]
      omega
    · split
      · rename_i g
        have : k = 0 := by omega
        subst this
        exact ⟨by decide, .str (repS x 0), H, I.tok _, ⟨_, rfl⟩, q⟩
      · rename_i g
        split
        · rename_i g2
          have e : repS x k = x := by
            unfold repS
            rcases (Bool.or_eq_true _ _).mp g2 with z | z
            · have : k = 1 := by have := beq_iff_eq.mp z; omega
              subst this
              simp
            · have z : x.length = 0 := beq_iff_eq.mp z
              have z' : x.cps = #[] := Array.eq_empty_of_size_eq_zero z
              cases x with
              | mk c =>
                simp only at z'
                subst z'
                simp
          show EP X pins σ Q (.str x t1) s
          exact ⟨.str x, H, I, ⟨_, rfl⟩, by rw [← e]; rw [e] at q ⊢; exact q⟩
        · refine ⟨?_, ?_⟩
          · rw [Int.toNat_natCast]
            show ((List.replicate k x.cps).foldl (· ++ ·) #[]).size ≤ sizeLine
            rw [← Array.length_toList, fold_cps, sizeLine_eq, List.length_append, len_rep]
            have : x.cps.toList.length = x.length := Array.length_toList
            rw [this, Nat.mul_comm]
            simp
            omega
          · refine ⟨.str (repS x k), H, I.tok _, ⟨s.toks, ?_⟩, q⟩
            rw [Int.toNat_natCast]
            have e : (List.replicate k x.cps).foldl (· ++ ·) #[] = (List.replicate k x.cps.toList).flatten.toArray := by
              apply Array.toList_inj.mp
              rw [fold_cps]
              simp
            unfold repS
            rw [e]) ha hb fun v w H F Q fh i1 i2 q => ⟨isS i1, isI i2, q _ _ _ (Pur.refl fh) (i_str F)⟩
end
end L3
set_option Elab.async false
set_option linter.all false
set_option maxRecDepth 100000
set_option maxHeartbeats 4000000
namespace L3
open PySem PySem.Spec PySem.Calls PyProof.Rows L2
end L3
set_option Elab.async false
set_option linter.all false
set_option maxRecDepth 100000
set_option maxHeartbeats 4000000
namespace L3
open PySem
def lt (i : Nat) : Nat := if i < 26 then 97 + i else 65 + (i - 26)
def letS : Str := "abcdefghijklmnopqrstuvwxyzABCDEFGHIJKLMNOPQRSTUVWXYZ"
theorem letS_get : ∀ i : Fin 52, letS.cps.toList[i.val]? = some (lt i.val) := by decide +kernel
def isLet (n : Nat) : Bool := (decide (97 ≤ n) && decide (n ≤ 122)) || (decide (65 ≤ n) && decide (n ≤ 90))
theorem lt_let {i : Nat} (h : i < 52) : isLet (lt i) = true := by
  unfold lt isLet
  split <;> simp <;> omega
theorem lt_inj {i j : Nat} (hi : i < 52) (hj : j < 52) (h : lt i = lt j) : i = j := by
  unfold lt at h
  split at h <;> split at h <;> omega
def IsSym (x : Str) : Prop := 1 ≤ x.cps.size ∧ x.cps.size ≤ 8 ∧ ∀ c ∈ x.cps.toList, isLet c = true
def szC (c : Int) : Nat := (1 + c % 8).toNat
def atC (c : Int) : Nat := (c / 8 % (1 + c % 8)).toNat
def bsC (c : Int) : Nat := (c / 64 % 52).toNat
def stp (c : Int) (k p : Nat) : Nat := bsC c + 7 * p + if p = atC c then k else 0
def symL (c : Int) (k n : Nat) : List Nat := (List.range n).map fun p => lt (stp c k p % 52)
def symS (c : Int) (k : Nat) : Str := ⟨(symL c k (szC c)).toArray⟩
theorem szC_in (c : Int) : 1 ≤ szC c ∧ szC c ≤ 8 := by unfold szC; omega
theorem szC_eq (c : Int) : ((szC c : Nat) : Int) = 1 + c % 8 := by unfold szC; omega
theorem atC_lt (c : Int) : atC c < szC c := by
  have h : 0 < 1 + c % 8 := by omega
  have h1 := Int.emod_lt_of_pos (c / 8) h
  have h2 := Int.emod_nonneg (c / 8) (show 1 + c % 8 ≠ 0 by omega)
  unfold atC szC
  omega
theorem atC_eq (c : Int) : ((atC c : Nat) : Int) = c / 8 % (1 + c % 8) := by
  have h2 := Int.emod_nonneg (c / 8) (show 1 + c % 8 ≠ 0 by omega)
  unfold atC
  omega
theorem bsC_eq (c : Int) : ((bsC c : Nat) : Int) = c / 64 % 52 := by unfold bsC; omega
theorem symL_len {c : Int} {k n : Nat} : (symL c k n).length = n := by unfold symL; simp
theorem symL_succ {c : Int} {k n : Nat} : symL c k (n + 1) = symL c k n ++ [lt (stp c k n % 52)] := by unfold symL; rw [List.range_succ, List.map_append]; rfl
theorem sym_is (c : Int) (k : Nat) : IsSym (symS c k) := by
  have := szC_in c
  refine ⟨?_, ?_, fun x hx => ?_⟩
  · unfold symS; simp [symL_len]; omega
  · unfold symS; simp [symL_len]; omega
  · unfold symS symL at hx
    simp only [List.mem_map, List.mem_range] at hx
    obtain ⟨p, _, rfl⟩ := hx
    exact lt_let (Nat.mod_lt _ (by decide))
theorem sym_inj {c : Int} {j k : Nat} (hj : j < 52) (hk : k < 52) (h : symS c j = symS c k) : j = k := by
  have e : symL c j (szC c) = symL c k (szC c) := by
    unfold symS at h
    injection h with h
    simpa using h
  have ha := atC_lt c
  have e2 : (symL c j (szC c))[atC c]? = (symL c k (szC c))[atC c]? := by rw [e]
  unfold symL at e2
  rw [List.getElem?_map, List.getElem?_map, List.getElem?_range ha] at e2
  simp only [Option.map_some, Option.some.injEq] at e2
  have e3 := lt_inj (Nat.mod_lt _ (by decide)) (Nat.mod_lt _ (by decide)) e2
  unfold stp at e3
  rw [if_pos rfl, if_pos rfl] at e3
  omega
abbrev Rule := Str × List Str × Rat
def addHead (acc : List Str) (r : Rule) : List Str := if r.1 ∈ acc then acc else acc ++ [r.1]
def firsts (rs : List Rule) : List Str := rs.foldl addHead []
def addIf (h : Str) (t : Rat) (r : Rule) : Rat := if r.1 = h then t + r.2.2 else t
def sumOf (h : Str) (rs : List Rule) : Rat := rs.foldl (addIf h) 0
inductive Live (hs : List Str) (rs : List Rule) : Str → Prop
  | mk (r : Rule) (hr : r ∈ rs) (hb : ∀ x ∈ r.2.1, x ∈ hs → Live hs rs x) : Live hs rs r.1
def okBody (hs L b : List Str) : Bool := b.all fun x => decide (x ∈ L) || !decide (x ∈ hs)
def hasBody (rs : List Rule) (hs L : List Str) (h : Str) : Bool := rs.any fun r => decide (r.1 = h) && okBody hs L r.2.1
def stepL (hs : List Str) (rs : List Rule) (L : List Str) : List Str := hs.filter (hasBody rs hs L)
open Classical in
noncomputable def liveL (hs : List Str) (rs : List Rule) : List Str := hs.filter fun h => decide (Live hs rs h)
theorem okBody_iff {hs L b : List Str} : okBody hs L b = true ↔ ∀ x ∈ b, x ∈ hs → x ∈ L := by
  unfold okBody
  rw [List.all_eq_true]
  refine forall_congr' fun x => forall_congr' fun _ => ?_
  by_cases h1 : x ∈ L <;> by_cases h2 : x ∈ hs <;> simp [h1, h2]
theorem hasBody_iff {rs : List Rule} {hs L : List Str} {h : Str} : hasBody rs hs L h = true ↔ ∃ r ∈ rs, r.1 = h ∧ ∀ x ∈ r.2.1, x ∈ hs → x ∈ L := by
  unfold hasBody
  simp only [List.any_eq_true, Bool.and_eq_true, decide_eq_true_eq, okBody_iff]
theorem stepL_mono {hs : List Str} {rs : List Rule} {L L' : List Str} (h : ∀ x ∈ L, x ∈ L') : ∀ x ∈ stepL hs rs L, x ∈ stepL hs rs L' := fun x hx => by
  unfold stepL at hx ⊢
  rw [List.mem_filter, hasBody_iff] at hx ⊢
  obtain ⟨h1, r, hr, e, hb⟩ := hx
  exact ⟨h1, r, hr, e, fun y hy hh => h y (hb y hy hh)⟩
def Stage (hs : List Str) (rs : List Rule) (L : List Str) : Prop := (∃ p : Str → Bool, L = hs.filter p) ∧ (∀ x ∈ L, x ∈ stepL hs rs L) ∧ ∀ x ∈ L, Live hs rs x
theorem stage_nil {hs : List Str} {rs : List Rule} : Stage hs rs [] := ⟨⟨fun _ => false, by simp⟩, fun x hx => by simp at hx, fun x hx => by simp at hx⟩
theorem stage_step {hs : List Str} {rs : List Rule} {L : List Str} (h : Stage hs rs L) : Stage hs rs (stepL hs rs L) := by
  refine ⟨⟨_, rfl⟩, stepL_mono h.2.1, fun x hx => ?_⟩
  unfold stepL at hx
  rw [List.mem_filter, hasBody_iff] at hx
  obtain ⟨h1, r, hr, e, hb⟩ := hx
  subst e
  exact .mk r hr fun y hy hh => h.2.2 y (hb y hy hh)
theorem filter_le {α : Type} {p q : α → Bool} : ∀ {l : List α}, (∀ x ∈ l, p x = true → q x = true) → (l.filter p).length ≤ (l.filter q).length ∧ ((l.filter q).length ≤ (l.filter p).length → l.filter p = l.filter q)
  | [], _ => by simp
  | a :: l, h => by
    have ih := filter_le (p := p) (q := q) (l := l) fun x hx => h x (List.mem_cons_of_mem _ hx)
    have ha := h a (by simp)
    cases hp : p a with
    | true =>
      rw [List.filter_cons_of_pos hp, List.filter_cons_of_pos (ha hp), List.length_cons, List.length_cons]
      exact ⟨by omega, fun z => by rw [ih.2 (by omega)]⟩
    | false =>
      rw [List.filter_cons_of_neg (by simp [hp])]
      cases hq : q a with
      | true =>
        rw [List.filter_cons_of_pos hq, List.length_cons]
        exact ⟨by omega, fun z => by omega⟩
      | false =>
        rw [List.filter_cons_of_neg (by simp [hq])]
        exact ih
theorem stage_le {hs : List Str} {rs : List Rule} {L : List Str} (h : Stage hs rs L) : L.length ≤ (stepL hs rs L).length ∧ ((stepL hs rs L).length ≤ L.length → L = stepL hs rs L) := by
  obtain ⟨⟨p, rfl⟩, h2, _⟩ := h
  refine filter_le fun x hx hp => ?_
  have := h2 x (List.mem_filter.mpr ⟨hx, hp⟩)
  unfold stepL at this
  exact (List.mem_filter.mp this).2
open Classical in
theorem stage_end {hs : List Str} {rs : List Rule} {L : List Str} (h : Stage hs rs L) (e : (stepL hs rs L).length ≤ L.length) (hh : ∀ r ∈ rs, r.1 ∈ hs) : stepL hs rs L = liveL hs rs := by
  have e' := (stage_le h).2 e
  have all : ∀ x, Live hs rs x → x ∈ L := fun x hx => by
    induction hx with
    | mk r hr _ ih =>
      rw [e']
      unfold stepL
      rw [List.mem_filter, hasBody_iff]
      exact ⟨hh r hr, r, hr, rfl, ih⟩
  unfold liveL
  rw [← e']
  obtain ⟨⟨p, hp⟩, _, h3⟩ := h
  rw [hp] at all h3 ⊢
  refine List.filter_congr fun x hx => ?_
  rw [Bool.eq_iff_iff, decide_eq_true_eq]
  exact ⟨fun q => h3 x (List.mem_filter.mpr ⟨hx, q⟩), fun q => (List.mem_filter.mp (all x q)).2⟩
theorem mem_addHead {acc : List Str} {r : Rule} {x : Str} : x ∈ addHead acc r ↔ x ∈ acc ∨ x = r.1 := by
  unfold addHead
  split
  · rename_i h
    exact ⟨.inl, fun z => z.elim id fun e => e ▸ h⟩
  · simp
theorem mem_heads : ∀ {rs : List Rule} {acc : List Str} {x : Str}, x ∈ rs.foldl addHead acc ↔ x ∈ acc ∨ ∃ r ∈ rs, x = r.1
  | [], acc, x => by simp
  | r :: rs, acc, x => by
    rw [List.foldl_cons, mem_heads, mem_addHead]
    simp only [List.mem_cons, exists_eq_or_imp, or_assoc]
theorem mem_firsts {rs : List Rule} {x : Str} : x ∈ firsts rs ↔ x ∈ rs.map (·.1) := by
  unfold firsts
  rw [mem_heads]
  simp only [List.not_mem_nil, false_or, List.mem_map]
  exact ⟨fun ⟨r, h1, h2⟩ => ⟨r, h1, h2.symm⟩, fun ⟨r, h1, h2⟩ => ⟨r, h1, h2.symm⟩⟩
end L3
set_option Elab.async false
set_option linter.all false
set_option maxRecDepth 100000
set_option maxHeartbeats 4000000
namespace L3
open PySem PySem.Spec PySem.Calls PyProof.Rows L2
section
variable {X : Cx} {B : Bs} {Γ : Ga} {Ω : Om} {a l e : Expr} {pos p2 : Pos} {R : D → Om → Prop}
end
section
variable {X : Cx} {B : Bs} {Γ : Ga} {Ω : Om} {E : E3} {rest body : List Stmt} {e c : Expr} {pos : Pos}
theorem w_exprV (h : V3 X B e Γ Ω fun _ Ω1 => W3 X B rest Γ Ω1 E) (hs : swapsWith e none pos.line X.env = pure false := by rfl) : W3 X B (.Expr e pos :: rest) Γ Ω E := fun F σ H S pins s I =>
  pss_cons (ps_expr pe_w hs) pss_w pins s σ H _ I ((h F σ H S).mono fun v H1 ⟨d, Ω1, F1, S1, f1, i1, h1⟩ => to_mono f1 (h1 F1 σ H1 S1))
theorem W3.nx {J N : Ga → Om → Prop} {sts : List Stmt} (h : W3 X B sts Γ Ω { E with nx := J }) (i : ∀ Γ Ω, J Γ Ω → N Γ Ω) : W3 X B sts Γ Ω { E with nx := N } := fun F σ H S =>
  ends_mono (D := E3.to X.K B F { E with nx := J }) (D' := E3.to X.K B F { E with nx := N }) (fun _ _ ⟨Γ', Ω', F', S', f', n⟩ => ⟨Γ', Ω', F', S', f', i _ _ n⟩) (fun _ _ q => q) (fun _ _ q => q) (fun _ _ q => q) (h F σ H S)
theorem w_if2 {k : Bool} {a b : List Stmt} (J : Ga → Om → Prop) (hc : PT3 X Γ c k) (ht : k = true → W3 X B a Γ Ω { E with nx := J }) (hf : k = false → W3 X B b Γ Ω { E with nx := J }) (hr : ∀ Γ Ω, J Γ Ω → W3 X B rest Γ Ω E) : W3 X B (.If c a b pos :: rest) Γ Ω E :=
  w_if hc (fun h => (ht h).nx hr) fun h => (hf h).nx hr
theorem w_ifV2 {a b : List Stmt} (J : Ga → Om → Prop) (h : VT3 X B c Γ Ω fun k Ω1 => (k = true → W3 X B a Γ Ω1 { E with nx := J }) ∧ (k = false → W3 X B b Γ Ω1 { E with nx := J })) (hr : ∀ Γ Ω, J Γ Ω → W3 X B rest Γ Ω E) : W3 X B (.If c a b pos :: rest) Γ Ω E :=
  w_ifV fun F σ H S => (h F σ H S).mono fun k H' ⟨Ω', F', S', f', h1, h2⟩ => ⟨Ω', F', S', f', fun q => (h1 q).nx hr, fun q => (h2 q).nx hr⟩
end
def bodyD (b : List Str) : D := .tup (b.map D.str)
def ruleD (r : Rule) : D := .tup [.str r.1, bodyD r.2.1, sh r.2.2]
def strsD (xs : List Str) : List D := xs.map D.str
def rulesD (rs : List Rule) : List D := rs.map ruleD
theorem strsD_len {xs : List Str} : (strsD xs).length = xs.length := List.length_map _
theorem rulesD_len {rs : List Rule} : (rulesD rs).length = rs.length := List.length_map _
theorem strsD_get {xs : List Str} {i : Nat} {d : D} (h : (strsD xs)[i]? = some d) : ∃ x, xs[i]? = some x ∧ d = .str x := by
  unfold strsD at h
  rw [List.getElem?_map] at h
  obtain ⟨x, h1, h2⟩ := Option.map_eq_some_iff.mp h
  exact ⟨x, h1, h2.symm⟩
theorem rulesD_get {rs : List Rule} {i : Nat} {d : D} (h : (rulesD rs)[i]? = some d) : ∃ r, rs[i]? = some r ∧ d = ruleD r := by
  unfold rulesD at h
  rw [List.getElem?_map] at h
  obtain ⟨x, h1, h2⟩ := Option.map_eq_some_iff.mp h
  exact ⟨x, h1, h2.symm⟩
theorem take_get {α : Type} {l : List α} {i : Nat} {x : α} (h : l[i]? = some x) : l.take (i + 1) = l.take i ++ [x] := by
  rw [List.take_succ, h]; rfl
theorem str_inj {x y : Str} (h : D.str x = D.str y) : x = y := by injection h
theorem beq_str {x y : Str} : beqD (.str x) (.str y) = decide (x = y) := by
  by_cases h : x = y
  · subst h
    rw [beqD_refl (by rfl)]
    simp
  · rw [beqD_ne (fun z => h (str_inj z)), decide_eq_false h]
theorem in_strs {x : Str} {L : List Str} : inD (.str x) (strsD L) = decide (x ∈ L) := by
  unfold inD strsD
  rw [List.any_map, Bool.eq_iff_iff, List.any_eq_true, decide_eq_true_eq]
  constructor
  · rintro ⟨y, hy, e⟩
    have e' : beqD (.str y) (.str x) = true := e
    rw [beq_str, decide_eq_true_eq] at e'
    exact e' ▸ hy
  · intro h
    exact ⟨x, h, by show beqD (.str x) (.str x) = true; rw [beq_str]; simp⟩
theorem strs_kin {x : Str} {L : List Str} : ∀ e ∈ strsD L, kin e (.str x) = true ∧ dep e ≤ 60 := fun e he => by
  unfold strsD at he
  obtain ⟨y, _, rfl⟩ := List.mem_map.mp he
  exact ⟨rfl, Nat.zero_le _⟩
theorem solid_strs {L : Bool} : ∀ {xs : List Str}, solids L (strsD xs) = true
  | [] => rfl
  | x :: xs => by
    show (solid L (D.str x) && solids L (strsD xs)) = true
    rw [solid_strs]
    rfl
def keyR (r : Rule) : List K2 := [.inl (.inr r.1), .inr (r.2.1.map Sum.inr)]
theorem keyR_eq (r : Rule) : D.tup [.str r.1, bodyD r.2.1] = kD (keyR r) := by
  unfold kD keyR bodyD
  simp only [List.map_cons, List.map_nil, k2D, keyD, List.map_map]
  rfl
theorem inr_inj : ∀ {a b : List Str}, a.map (Sum.inr : Str → Key) = b.map Sum.inr → a = b
  | [], [], _ => rfl
  | [], _ :: _, h => by simp at h
  | _ :: _, [], h => by simp at h
  | x :: a, y :: b, h => by
    simp only [List.map_cons, List.cons.injEq, Sum.inr.injEq] at h
    rw [h.1, inr_inj h.2]
theorem keyR_inj {r s : Rule} (h : keyR r = keyR s) : (r.1, r.2.1) = (s.1, s.2.1) := by
  unfold keyR at h
  simp only [List.cons.injEq, Sum.inl.injEq, Sum.inr.injEq, and_true] at h
  rw [h.1, inr_inj h.2]
def seenD (rs : List Rule) : List (List K2 × D) := rs.map fun r => (keyR r, .bl true)
theorem seen_not {rs : List Rule} {r : Rule} (h : (r.1, r.2.1) ∉ rs.map fun r => (r.1, r.2.1)) : atD (seenD rs) (keyR r) = none := by
  unfold atD seenD
  rw [Option.map_eq_none_iff, List.find?_eq_none]
  intro p hp
  obtain ⟨q, hq, rfl⟩ := List.mem_map.mp hp
  simp only [decide_eq_true_eq]
  intro z
  exact h (List.mem_map.mpr ⟨q, hq, keyR_inj z⟩)
theorem seen_put {rs : List Rule} {r : Rule} (h : (r.1, r.2.1) ∉ rs.map fun r => (r.1, r.2.1)) : putD (seenD rs) (keyR r) (.bl true) = seenD (rs ++ [r]) := by
  unfold putD
  rw [seen_not h]
  unfold seenD
  rw [List.map_append]
  rfl
theorem nodup_take {α β : Type} {f : α → β} {l : List α} {i : Nat} {x : α} (hn : (l.map f).Nodup) (h : l[i]? = some x) : f x ∉ (l.take i).map f := fun z => by
  obtain ⟨y, hy, e⟩ := List.mem_map.mp z
  obtain ⟨j, hj, rfl⟩ := List.getElem_of_mem hy
  rw [List.length_take] at hj
  have hj1 : j < l.length := by omega
  have hi : i < l.length := (List.getElem?_eq_some_iff.mp h).1
  rw [List.getElem_take] at e
  have e1 : (l.map f)[j]? = (l.map f)[i]? := by
    rw [List.getElem?_map, List.getElem?_map, h, List.getElem?_eq_getElem hj1]
    simp [e]
  have := (List.getElem?_inj (by rw [List.length_map]; exact hj1) hn).mp e1
  omega
theorem p_chainI2 {X : Cx} {Γ : Ga} {a b c : Expr} {pos : Pos} {i j k : Int} (ha : P3 X Γ a (.int i)) (hb : P3 X Γ b (.int j)) (hc : P3 X Γ c (.int k)) (hm : lastMarks [.LtE, .LtE] [b, c] = false := by with_unfolding_all rfl) : P3 X Γ (.Compare a [.LtE, .LtE] [b, c] pos) (.bl (decide (i ≤ j) && decide (j ≤ k))) :=
  PE.of (pe_chain op_le op_le ha hb hc hm) fun σ H Q zq => by
    obtain ⟨F, fh, sl, q⟩ := zq
    refine ⟨F, fh, sl, fun v1 H1 F1 p1 i1 => ⟨F1, p1.fh, sl.mono p1.ff, fun v2 H2 F2 p2 i2 => ⟨i, j, isI i1, isI i2, decide (i ≤ j), rfl, ?_⟩⟩⟩
    cases e : decide (i ≤ j) with
    | true =>
      rw [if_pos rfl]
      exact ⟨F2, p2.fh, sl.mono (p1.ff.trans p2.ff), fun v3 H3 F3 p3 i3 => ⟨j, k, isI i2, isI i3, q _ _ _ ((p1.trans p2).trans p3) (by rw [e]; exact i_bl F3)⟩⟩
    | false =>
      rw [if_neg Bool.false_ne_true]
      exact q _ _ _ (p1.trans p2) (by rw [e]; exact i_bl F2)
open Classical in
noncomputable def isSymB (x : Str) : Bool := decide (IsSym x)
theorem isSymB_iff {x : Str} : isSymB x = true ↔ IsSym x := @decide_eq_true_iff _ (Classical.propDecidable _)
theorem isSymB_no {x : Str} (h : ¬ IsSym x) : isSymB x = false := by rw [← Bool.not_eq_true, isSymB_iff]; exact h
noncomputable def C_isSym : List D → D → Prop := fun ds d => ∃ x : Str, ds = [.str x] ∧ d = .bl (isSymB x) ∧ x.cps.size ≤ 100 ∧ x.cps.all (· < 128) = true
def C_letter : List D → D → Prop := fun ds d => ∃ c : Nat, ds = [.str ⟨#[c]⟩] ∧ d = .bl (isLet c)
def C_symbol : List D → D → Prop := fun ds d => ∃ x : Str, ds = [.str x] ∧ d = .non ∧ IsSym x
def RuleOk (r : Rule) : Prop := IsSym r.1 ∧ 1 ≤ r.2.1.length ∧ r.2.1.length ≤ 4 ∧ (∀ x ∈ r.2.1, IsSym x) ∧ 0 < r.2.2
def C_rule : List D → D → Prop := fun ds d => ∃ r : Rule, ds = [ruleD r] ∧ d = .non ∧ RuleOk r
def C_rules : List D → D → Prop := fun ds d => ∃ rs : List Rule, ds = [.lst (rulesD rs)] ∧ d = .non ∧ 1 ≤ rs.length ∧ rs.length ≤ 30 ∧ (∀ r ∈ rs, RuleOk r) ∧ (rs.map fun r => (r.1, r.2.1)).Nodup
def C_start : List D → D → Prop := fun ds d => ∃ (x : Str) (hs : List Str), ds = [.str x, .lst (strsD hs)] ∧ d = .non ∧ x ∈ hs
def C_sums : List D → D → Prop := fun ds d => ∃ (hs : List Str) (rs : List Rule), ds = [.lst (strsD hs), .lst (rulesD rs)] ∧ d = .non ∧ rs.length ≤ 30 ∧ (∀ h ∈ hs, sumOf h rs = 1) ∧ ∀ r ∈ rs, 0 ≤ r.2.2 ∧ Sz 1000 r.2.2
def C_heads : List D → D → Prop := fun ds d => ∃ rs : List Rule, ds = [.lst (rulesD rs)] ∧ d = .lst (strsD (firsts rs)) ∧ rs.length ≤ 30
def C_liveOf : List D → D → Prop := fun ds d => ∃ (hs : List Str) (rs : List Rule), ds = [.lst (strsD hs), .lst (rulesD rs)] ∧ d = .lst (strsD (liveL hs rs)) ∧ rs.length ≤ 30 ∧ hs.length ≤ 30 ∧ (∀ r ∈ rs, r.1 ∈ hs) ∧ ∀ r ∈ rs, r.2.1.length ≤ 4
def C_hasLive : List D → D → Prop := fun ds d => ∃ (h : Str) (rs : List Rule) (hs L : List Str), ds = [.str h, .lst (rulesD rs), .lst (strsD hs), .lst (strsD L)] ∧ d = .bl (hasBody rs hs L h) ∧ rs.length ≤ 30 ∧ ∀ r ∈ rs, r.2.1.length ≤ 4
def C_liveBody : List D → D → Prop := fun ds d => ∃ b hs L : List Str, ds = [bodyD b, .lst (strsD hs), .lst (strsD L)] ∧ d = .bl (okBody hs L b) ∧ b.length ≤ 4
def gF : List Str := ["first", "kept_rules", "kept_heads", "kept_live"]
noncomputable def gDs (st : Str) (rs : List Rule) : List D := [.str st, .lst (rulesD rs), .lst (strsD (firsts rs)), .lst (strsD (liveL (firsts rs) rs))]
noncomputable def gD (C : Addr) (st : Str) (rs : List Rule) : D := .obj C gF (gDs st rs)
structure GV (st : Str) (rs : List Rule) : Prop where
  l1 : 1 ≤ rs.length
  l2 : rs.length ≤ 30
  ok : ∀ r ∈ rs, RuleOk r
  nd : (rs.map fun r => (r.1, r.2.1)).Nodup
  st : st ∈ firsts rs
  one : ∀ h ∈ firsts rs, sumOf h rs = 1
  sz : ∀ r ∈ rs, Sz 1000 r.2.2
def C_makes : List D → List Str × List D → Prop := fun ds r => ∃ (st : Str) (rs : List Rule), ds = [.str st, .lst (rulesD rs)] ∧ r = (gF, gDs st rs) ∧ GV st rs
structure ClsG (K : PySem.W.Frag) (C : Addr) : Prop where
  c : Cls K C
  n_first : NoAttr K C "first"
  n_kept_rules : NoAttr K C "kept_rules"
  n_kept_heads : NoAttr K C "kept_heads"
  n_kept_live : NoAttr K C "kept_live"
theorem heads_len : ∀ {rs : List Rule} {acc : List Str}, (rs.foldl addHead acc).length ≤ acc.length + rs.length
  | [], acc => by simp
  | r :: rs, acc => by
    have := heads_len (rs := rs) (acc := addHead acc r)
    rw [List.foldl_cons, List.length_cons]
    have : (addHead acc r).length ≤ acc.length + 1 := by
      unfold addHead
      split
      · omega
      · rw [List.length_append]; exact Nat.le_refl _
    omega
theorem firsts_len {rs : List Rule} : (firsts rs).length ≤ rs.length := by
  have := heads_len (rs := rs) (acc := [])
  unfold firsts
  simpa using this
theorem solid_lstrs {xs : List Str} : solid true (.lst (strsD xs)) = true := by
  rw [solid, solid_strs]
  rfl
theorem leS_l {c n : Nat} {x : Str} (h : x.cps.toList = [n]) : leS x ⟨#[c]⟩ = decide (n ≤ c) := by
  unfold leS
  rw [h, Bool.eq_iff_iff]
  simp [List.cons_lt_cons_iff]
theorem leS_r {c n : Nat} {x : Str} (h : x.cps.toList = [n]) : leS ⟨#[c]⟩ x = decide (c ≤ n) := by
  unfold leS
  rw [h, Bool.eq_iff_iff]
  simp [List.cons_lt_cons_iff]
theorem let_ascii {c : Nat} (h : isLet c = true) : c < 128 := by
  unfold isLet at h
  simp at h
  omega
theorem sym_ascii {x : Str} (h : IsSym x) : x.cps.all (· < 128) = true := by
  rw [Array.all_eq_true_iff_forall_mem]
  intro c hc
  simpa using let_ascii (h.2.2 c (by simpa using hc))
theorem signs_get {x : Str} {i : Nat} {d : D} (h : (signs x)[i]? = some d) : ∃ c, x.cps.toList[i]? = some c ∧ d = .str ⟨#[c]⟩ := by
  unfold signs at h
  rw [List.getElem?_map] at h
  obtain ⟨c, h1, h2⟩ := Option.map_eq_some_iff.mp h
  exact ⟨c, h1, h2.symm⟩
theorem signs_len {x : Str} : (signs x).length = x.cps.size := by unfold signs; simp
theorem sz_sumI {t q : Rat} {i : Nat} (ht : 0 ≤ t ∧ Sz (1 + i * 1001) t) (hq : 0 ≤ q ∧ Sz 1000 q) : 0 ≤ t + q ∧ Sz (1 + (i + 1) * 1001) (t + q) := ⟨q_nn_add ht.1 hq.1, (sz_add ht.2 hq.2).mono (by omega)⟩
end L3
namespace L3
open PySem PySem.Spec PySem.Calls PyProof.Rows L2
theorem clsG_mk {K : PySem.W.Frag} {C : Addr} (pg : PySem.W.plainGet K C Str.empty = true) (hd : PySem.W.hasDictIn K C = true) (po : PySem.W.plainOver K C = true) (sa : PySem.W.findIn K (.ref C) "__setattr__" = some (some (.builtin "object.__setattr__")))
    (n1 : PySem.W.findIn K (.ref C) "first" = some none) (n2 : PySem.W.findIn K (.ref C) "kept_rules" = some none) (n3 : PySem.W.findIn K (.ref C) "kept_heads" = some none) (n4 : PySem.W.findIn K (.ref C) "kept_live" = some none) : ClsG K C := ⟨⟨pg, hd, po, sa⟩, n1, n2, n3, n4⟩
theorem globInt {K : PySem.W.Frag} {h : Heap} {mg : Str → Option Value} (X : K.In h) (G : h.Ns mainGlobals mg) {x : Str} {i : Int} {t : Tok} (a : PySem.W.nsIn K mainGlobals x = some (some (.int i t))) : GlobD K mg x (.int i) :=
  ⟨.int i, .int i t, PySem.W.mg_of X G a, ⟨t, rfl⟩, fun F => i_int F⟩
end L3
set_option Elab.async false
set_option linter.all false
set_option maxRecDepth 100000
set_option maxHeartbeats 4000000
namespace L3
open PySem PySem.Spec PySem.Calls PyProof.Rows L2
def C_symbols : List D → D → Prop := fun ds d => ∃ (c : Int) (m : Nat), ds = [.int c, .int (m : Int)] ∧ d = .lst (strsD ((List.range m).map (symS c))) ∧ m ≤ 20
end L3
namespace L3
open PySem PySem.Spec PySem.Calls PyProof.Rows L2
theorem atI_let {c : Int} {k p : Nat} (q : Int) (h : q = (stp c k p : Nat)) : atI letS.cps.toList (q % 52) = some (lt (stp c k p % 52)) := by
  have e : q % 52 = ((stp c k p % 52 : Nat) : Int) := by omega
  rw [e]
  exact atI_nat (letS_get ⟨stp c k p % 52, Nat.mod_lt _ (by decide)⟩)
end L3
namespace L3
open PySem PySem.Spec PySem.Calls PyProof.Rows L2
end L3
namespace L3
end L3
namespace L3
open PySem
theorem str_snoc {l : List Nat} {c : Nat} : (⟨l.toArray⟩ : Str) ++ ⟨#[c]⟩ = ⟨(l ++ [c]).toArray⟩ := by
  show Str.mk (l.toArray ++ #[c]) = _
  simp
end L3
namespace L3
open PySem
end L3
namespace L3
open PySem
end L3
set_option Elab.async false
set_option linter.all false
set_option maxRecDepth 100000
set_option maxHeartbeats 4000000
namespace L3
open PySem PySem.Spec PySem.Calls PyProof.Rows L2
def Txt (x : Str) : Prop := x.length ≤ 100 ∧ ∀ c ∈ x.cps.toList, c < 128
structure TechR (r : Rule) : Prop where
  h : Txt r.1
  l : r.2.1.length ≤ 100
  b : ∀ x ∈ r.2.1, Txt x
  n : 0 ≤ r.2.2
  s : Sz 1000 r.2.2
structure GoodRs (rs : List Rule) : Prop where
  l1 : 1 ≤ rs.length
  l2 : rs.length ≤ 30
  ok : ∀ r ∈ rs, RuleOk r
  nd : (rs.map fun r => (r.1, r.2.1)).Nodup
def GoodG (st : Str) (rs : List Rule) : Prop := GoodRs rs ∧ st ∈ firsts rs ∧ ∀ h ∈ firsts rs, sumOf h rs = 1
def C_symbolX (A : Addr) : List D → Addr → Prop := fun ds c => c = A ∧ ∃ x : Str, ds = [.str x] ∧ Txt x ∧ ¬ IsSym x
def C_ruleX (A : Addr) : List D → Addr → Prop := fun ds c => c = A ∧ ∃ r : Rule, ds = [ruleD r] ∧ TechR r ∧ ¬ RuleOk r
def C_rulesX (A : Addr) : List D → Addr → Prop := fun ds c => c = A ∧ ∃ rs : List Rule, ds = [.lst (rulesD rs)] ∧ rs.length ≤ 100 ∧ (∀ r ∈ rs, TechR r) ∧ ¬ GoodRs rs
def C_startX (A : Addr) : List D → Addr → Prop := fun ds c => c = A ∧ ∃ (x : Str) (hs : List Str), ds = [.str x, .lst (strsD hs)] ∧ Txt x ∧ x ∉ hs
def C_sumsX (A : Addr) : List D → Addr → Prop := fun ds c => c = A ∧ ∃ (hs : List Str) (rs : List Rule), ds = [.lst (strsD hs), .lst (rulesD rs)] ∧ rs.length ≤ 30 ∧ (∀ r ∈ rs, 0 ≤ r.2.2 ∧ Sz 1000 r.2.2) ∧ (∀ h ∈ hs, Txt h) ∧ ¬ ∀ h ∈ hs, sumOf h rs = 1
def C_makesX (A : Addr) : List D → Addr → Prop := fun ds c => c = A ∧ ∃ (st : Str) (rs : List Rule), ds = [.str st, .lst (rulesD rs)] ∧ Txt st ∧ rs.length ≤ 100 ∧ (∀ r ∈ rs, TechR r) ∧ ¬ GoodG st rs
theorem txt_ascii {x : Str} (h : Txt x) : x.cps.all (· < 128) = true := by
  rw [Array.all_eq_true_iff_forall_mem]
  intro c hc
  simpa using h.2 c (by simpa using hc)
theorem txt_repr {x : Str} (h : Txt x) : (reprText x).length ≤ 1002 := repr_fit h.1 h.2
theorem seen_yes {rs : List Rule} {r : Rule} (h : (r.1, r.2.1) ∈ rs.map fun r => (r.1, r.2.1)) : (atD (seenD rs) (keyR r)).isSome = true := by
  obtain ⟨q, hq, e⟩ := List.mem_map.mp h
  unfold atD seenD
  rw [Option.isSome_map, List.find?_isSome]
  refine ⟨(keyR q, .bl true), List.mem_map.mpr ⟨q, hq, rfl⟩, ?_⟩
  simp only [decide_eq_true_eq]
  unfold keyR
  injection e with e1 e2
  rw [e1, e2]
theorem r_callL {X : Cx} {B : Bs} {Γ Γ' : Ga} {Ω : Om} {e : Expr} {es : List Expr} {ds : List D} {pos p : Pos} {Ex : XK} {C : Addr} {x : Str} {k n : Nat} {ps : List Str} {Cx' : List D → Addr → Prop} (o : OkF X.prog X.w X.K X.mg X.base (CXo X.prog X.w) k x ps (spX X.K n Cx')) (hx : Passes (CXo X.prog X.w) X Ex) (hr : Room k X.A) (hg : Gl X x) (ha : PL3 X Γ' (e :: es) ds) (hC : Cx' ds C) (hl : Lent X.K Ω Γ Γ') (h : ∀ F σ H, Sat X.K B Γ Ω F σ H → Ex (.ref C) none H)
    (hn : ds.length = n := by rfl) (hdb : (x == ("__debug__" : Str)) = false := by decide) (he : starEach (e :: es) X.env = (false, eval e X.env) :: starEach es X.env := by rfl) (hpl : (backTo pos (starEach es X.env)).any (·.1) = false := by rfl) : R3 X B Γ Ω (.Call (.Name x p) (e :: es) [] pos) := fun F σ H S Q pins s I =>
  pe_fnX o hx hr hg ha hdb he hpl pins s σ H Q I ⟨addF Ω F H, S.addSub, S.lent hl, fun vs H' F' pu il => by
    dsimp only
    rw [List.append_nil]
    exact ⟨ds, C, F', hC, hn, pu.fh, il, fun H2 F2 p2 => h _ σ H2 (S.pur (S.back (pu.trans p2)))⟩⟩
theorem firsts_txt {rs : List Rule} (h : ∀ r ∈ rs, TechR r) : ∀ x ∈ firsts rs, Txt x := fun x hx => by
  obtain ⟨r, hr, rfl⟩ := List.mem_map.mp (mem_firsts.mp hx)
  exact (h r hr).h
end L3
namespace L3
open PySem
theorem len1 {us : List Value} (e : us.length = 1) : ∃ a, us = [a] := List.length_eq_one_iff.mp e
theorem len2 {us : List Value} (e : us.length = 2) : ∃ a b, us = [a, b] := by
  cases us with
  | nil => cases e
  | cons a r => obtain ⟨b, h⟩ := len1 (Nat.succ.inj e); exact ⟨a, b, by rw [h]⟩
theorem len3 {us : List Value} (e : us.length = 3) : ∃ a b c, us = [a, b, c] := by
  cases us with
  | nil => cases e
  | cons a r => obtain ⟨b, c, h⟩ := len2 (Nat.succ.inj e); exact ⟨a, b, c, by rw [h]⟩
theorem len4 {us : List Value} (e : us.length = 4) : ∃ a b c d, us = [a, b, c, d] := by
  cases us with
  | nil => cases e
  | cons a r => obtain ⟨b, c, d, h⟩ := len3 (Nat.succ.inj e); exact ⟨a, b, c, d, by rw [h]⟩
end L3
set_option Elab.async false
set_option linter.all false
set_option maxRecDepth 100000
set_option maxHeartbeats 4000000
namespace L3
open PySem PySem.Spec PySem.Calls PyProof.Rows L2 Builtin Builtin.Str
section
variable {X : Cx} {Γ : Ga} {a b : Expr} {x y : Str} {pos apos p : Pos}
theorem vals_strs : ∀ (l : List (Str × Tok)), Vals ((l.map (·.1)).map V.str) (strValues l)
  | [] => .nil
  | (x, t) :: l => .cons ⟨t, rfl⟩ (vals_strs l)
theorem strs_vals : ∀ {ts : List Str} {us : List Value}, Vals (ts.map V.str) us → ∃ l : List (Str × Tok), l.map (·.1) = ts ∧ strValues l = us
  | [], _, h => by cases h; exact ⟨[], rfl, rfl⟩
  | x :: ts, _, h => by
    cases h with
    | cons r t =>
      obtain ⟨u, rfl⟩ := r
      obtain ⟨l, h1, h2⟩ := strs_vals t
      exact ⟨(x, u) :: l, by rw [List.map_cons, h1], by rw [← h2]; rfl⟩
def rSplit : V → List V → Hp → VK → Prop := fun v vs H Q => ∃ a b, v = .str a ∧ vs = [.str b] ∧ (b.length == 0) = false ∧ a.length ≤ sizeLine ∧ (partsBetween a (occurrences a b 0 a.length (a.length + 1)) b.length).length ≤ sizeLine ∧ ∀ p, H p = none → Q (.ref p) (upd H p (.lst ((Txt.split a b).map V.str)))
theorem mt_split : MtM X "str.split" rSplit := by
  intro pins s σ H x vs v us Q I rx rv h
  obtain ⟨a, b, rfl, rfl, hy, hsz, hsz2, q⟩ := h
  obtain ⟨t, rfl⟩ := rx
  obtain ⟨u, rfl, ru⟩ := rv.one
  obtain ⟨u, rfl⟩ := ru
  have one : Txt.split a b = [a] → EP X pins σ Q (.ref s.heap.objs.size) { s with heap := s.heap.push { cls := .type "list", data := .seq #[Value.str a t] } } := fun e =>
    ⟨.ref _, _, I.lnew (t' := s.toks) (its := [Value.str a t]) (ys := [V.str a]) (.cons ⟨t, rfl⟩ .nil) (by show 1 ≤ sizeLine; decide), rfl, by have := q _ I.fresh; rw [e] at this; exact this⟩
  cases h1 : (decide (a.length < b.length) || decide (Builtin.Str.strKind a < Builtin.Str.strKind b))
  · cases hf : (occurrences a b 0 a.length (a.length + 1)).isEmpty
    · refine call_meets F.slot_str_split (typeIs_str _ _ _) F.entry_str_split (F.args_str_split_2 _ _) (meets_str_split_sep a b t u h1 hy hf hsz hsz2) ?_
      have e : Txt.split a b = partsBetween a (occurrences a b 0 a.length (a.length + 1)) b.length := (if_neg (ne_true_of_eq_false h1)).trans (if_neg (ne_true_of_eq_false hf))
      rw [e] at q
      rw [strsFrom_eq]
      have w := vals_strs (numbered s.toks (partsBetween a (occurrences a b 0 a.length (a.length + 1)) b.length))
      rw [numbered_texts] at w
      exact ⟨.ref _, _, I.lnew w (by rw [List.length_map]; exact hsz2), rfl, q _ I.fresh⟩
    · exact call_meets F.slot_str_split (typeIs_str _ _ _) F.entry_str_split (F.args_str_split_2 _ _) (meets_str_split_not_found a b t u h1 hy hf) (one ((if_neg (ne_true_of_eq_false h1)).trans (if_pos hf)))
  · exact call_meets F.slot_str_split (typeIs_str _ _ _) F.entry_str_split (F.args_str_split_2 _ _) (meets_str_split_cannot_occur a b t u h1) (one (if_pos h1))
def rJoin (K : PySem.W.Frag) : V → List V → Hp → VK → Prop := fun v vs H Q => ∃ sep p ts, v = .str sep ∧ vs = [.ref p] ∧ (SqL K H p (ts.map V.str) ∨ SqT K H p (ts.map V.str)) ∧ JoinOk sep ts = true ∧ Q (.str (Txt.join sep ts)) H
theorem mt_join : MtM X "str.join" (rJoin X.K) := by
  intro pins s σ H x vs v us Q I rx rv h
  obtain ⟨sep, p, ts, rfl, rfl, hs, hok, q⟩ := h
  obtain ⟨t, rfl⟩ := rx
  obtain ⟨u, rfl, ru⟩ := rv.one
  cases ru
  unfold JoinOk at hok
  rw [Bool.not_eq_true'] at hok
  have fin : ∀ (l : List (Str × Tok)), l.map (·.1) = ts → ((Txt.join sep (l.map (·.1))).length ≤ sizeLine ∧ ∀ t' k, EP X pins σ Q (.str (Txt.join sep (l.map (·.1))) t') { s with toks := k }) := fun l e => by
    subst e
    exact ⟨joinFit_length hok, fun t' k => ⟨.str _, H, I.tok k, ⟨t', rfl⟩, q⟩⟩
  rcases hs with hs | hs
  · obtain ⟨its, r, pl, hz⟩ := I.list hs
    obtain ⟨l, e1, e2⟩ := strs_vals r
    subst e2
    subst e1
    exact call_meets F.slot_str_join (typeIs_str _ _ _) F.entry_str_join (F.args_str_join_2 _ _) (meets_str_join_list sep t p l hok) ⟨pl.isList, post_join l (fin l rfl)⟩
  · obtain ⟨its, r, pl, hz⟩ := I.tuple hs
    obtain ⟨l, e1, e2⟩ := strs_vals r
    subst e2
    subst e1
    obtain ⟨o, e, c, n, d⟩ := pl
    exact call_meets F.slot_str_join (typeIs_str _ _ _) F.entry_str_join (F.args_str_join_2 _ _) (meets_str_join_tuple sep t p l hok) ⟨⟨o, n, e, c, d⟩, post_join l (fin l rfl)⟩
def rEnds : V → List V → Hp → VK → Prop := fun v vs H Q => ∃ a b, v = .str a ∧ vs = [.str b] ∧ Q (.bl (Txt.endswith a b)) H
theorem mt_ends : MtM X "str.endswith" rEnds := by
  intro pins s σ H x vs v us Q I rx rv h
  obtain ⟨a, b, rfl, rfl, q⟩ := h
  obtain ⟨t, rfl⟩ := rx
  obtain ⟨u, rfl, ru⟩ := rv.one
  obtain ⟨u, rfl⟩ := ru
  exact SC.endswith ⟨.bl _, H, I, rfl, q⟩
theorem call_intS : CallR X (.type "int") fun vs H Q => ∃ x n, vs = [.str x] ∧ intText? x = some n ∧ x.length ≤ 640 ∧ Q (.int n) H := by
  intro pins s σ H vs us Q I rv h
  obtain ⟨x, n, rfl, hn, hl, q⟩ := h
  obtain ⟨u, rfl, ru⟩ := rv.one
  obtain ⟨t, rfl⟩ := ru
  exact PySem.W.KIN.call_text hn hl ⟨.int n, H, I.tok _, ⟨_, rfl⟩, q⟩
theorem call_strI : CallR X (.type "str") fun vs H Q => ∃ n : Int, vs = [.int n] ∧ n.natAbs.log2 < 1920 ∧ Q (.str (toString n)) H := by
  intro pins s σ H vs us Q I rv h
  obtain ⟨n, rfl, hl, q⟩ := h
  obtain ⟨u, rfl, ru⟩ := rv.one
  obtain ⟨t, rfl⟩ := ru
  exact PySem.P.str_of_int hl ⟨.str _, H, I.tok _, ⟨_, rfl⟩, q⟩
structure MS (X : Cx) (a : Expr) (m : Str) (b : Expr) (apos pos : Pos) : Prop where
  hbase : attributeBase a m X.env (eval a X.env) = eval a X.env
  hfew : ((backTo pos (starEach [b] X.env)).all (fun x => !x.1) && (backToKw pos (keywordEach [] X.env)).all (fun x => x.1.isSome)
      && decide ([b].length + ([] : List Keyword).length + (if ([] : List Keyword).isEmpty then 0 else 1) < 30)) = true
  hline : (apos.endLine == pos.line) = true
  hs : starEach [b] X.env = (false, eval b X.env) :: starEach [] X.env
  hplain : (backTo pos (starEach [] X.env)).any (·.1) = false
theorem p_mtS {id : String} {m : Str} {r : V → List V → Hp → VK → Prop} {d e : D} (slot : Slot "str" m id) (hty : typeOf (.builtin id) = pure (.type "method_descriptor")) (hm : MtR X id r) (ha : P3 X Γ a (.str x)) (hb : P3 X Γ b d)
    (hr : ∀ v H F Q, Same F H → Is X.K F d v → (∀ u H' F', Pur F H F' H' → Is X.K F' e u → Q u H') → r (.str x) [v] H Q)
    (ms : MS X a m b apos pos) :
    P3 X Γ (.Call (.Attribute a m apos) [b] [] pos) e :=
  PE.of (pe_bm F.plainAttrs_str slot hty hm ha (pl_cons hb pl_nil ms.hs) ms.hbase ms.hfew ms.hline ms.hs ms.hplain) fun σ H Q ⟨F, fh, sl, q⟩ => ⟨F, fh, sl, fun v H1 F1 p1 i1 => by
    rw [isS i1]
    refine ⟨rfl, F1, p1.fh, sl.mono p1.ff, fun vs H2 F2 p2 il => ?_⟩
    obtain ⟨w, rfl, i2⟩ := isL1 il
    exact hr w H2 F2 Q p2.fh i2 fun u H3 F3 p3 i3 => q u H3 F3 ((p1.trans p2).trans p3) i3⟩
theorem isL_strs {K : PySem.W.Frag} {F : Hp} : ∀ (ts : List Str), IsL K F (ts.map D.str) (ts.map V.str)
  | [] => IsL.nil
  | t :: ts => IsL.cons (i_str F) (isL_strs ts)
theorem isL_strs_inv {K : PySem.W.Frag} {F : Hp} : ∀ {ts : List Str} {vs : List V}, IsL K F (ts.map D.str) vs → vs = ts.map V.str
  | [], _, h => by simp only [List.map_nil, IsL] at h; exact h
  | t :: ts, _, h => by
    simp only [List.map_cons, IsL] at h
    obtain ⟨x, r, rfl, h1, h2⟩ := h
    rw [isS h1, isL_strs_inv h2]
    rfl
theorem p_split (ha : P3 X Γ a (.str x)) (hb : P3 X Γ b (.str y)) (hy : (y.length == 0) = false) (hz : x.length + 2 ≤ sizeLine)
    (ms : MS X a "split" b apos pos := by exact ⟨rfl, rfl, rfl, rfl, rfl⟩) :
    P3 X Γ (.Call (.Attribute a "split" apos) [b] [] pos) (.lst ((Txt.split x y).map D.str)) :=
  p_mtS (x := x) (d := .str y) F.slot_str_split F.type_str_split mt_split ha hb (ms := ms) fun v H F Q fh i k => ⟨x, y, rfl, by rw [isS i], hy, by omega, by have := StrLaws.occ_length_le x y 0 x.length (x.length + 1); rw [length_partsBetween]; omega, fun p hp => k _ _ _ (Pur.lay fh hp) (Is.lstI (.inl upd_same) (isL_strs _))⟩
theorem p_join (ha : P3 X Γ a (.str x)) {ts : List Str} {d : D} (hb : P3 X Γ b d) (hd : d = .lst (ts.map D.str) ∨ d = .tup (ts.map D.str)) (hok : JoinOk x ts = true)
    (ms : MS X a "join" b apos pos := by exact ⟨rfl, rfl, rfl, rfl, rfl⟩) :
    P3 X Γ (.Call (.Attribute a "join" apos) [b] [] pos) (.str (Txt.join x ts)) :=
  p_mtS (x := x) (d := d) F.slot_str_join F.type_str_join mt_join ha hb (ms := ms) fun v H F Q fh i k => by
    rcases hd with rfl | rfl
    · obtain ⟨l, xs, rfl, s1, j1⟩ := isLst i
      rw [isL_strs_inv j1] at s1
      exact ⟨x, l, ts, rfl, rfl, .inl (fh.seq s1), hok, k _ _ _ (Pur.refl fh) (i_str F)⟩
    · obtain ⟨l, xs, rfl, s1, j1⟩ := isT i
      rw [isL_strs_inv j1] at s1
      exact ⟨x, l, ts, rfl, rfl, .inr (same_tup fh s1), hok, k _ _ _ (Pur.refl fh) (i_str F)⟩
theorem p_ends (ha : P3 X Γ a (.str x)) (hb : P3 X Γ b (.str y))
    (ms : MS X a "endswith" b apos pos := by exact ⟨rfl, rfl, rfl, rfl, rfl⟩) :
    P3 X Γ (.Call (.Attribute a "endswith" apos) [b] [] pos) (.bl (Txt.endswith x y)) :=
  p_mtS (x := x) (d := .str y) F.slot_str_endswith F.type_str_endswith mt_ends ha hb (ms := ms) fun v H F Q fh i k => ⟨x, y, rfl, by rw [isS i], k _ _ _ (Pur.refl fh) (i_bl F)⟩
theorem p_intS {n : Int} (hm : X.mg "int" = none) (hg : Gl X "int") (ha : P3 X Γ a (.str x)) (hn : intText? x = some n) (hl : x.length ≤ 640) (he : starEach [a] X.env = (false, eval a X.env) :: starEach [] X.env := by rfl) : P3 X Γ (.Call (.Name "int" p) [a] [] pos) (.int n) :=
  p_callTy call_intS hg hm bt_int (pl_cons ha pl_nil he) (fun vs H F Q fh i k => by
    obtain ⟨v, rfl, j0⟩ := isL1 i
    exact ⟨x, n, by rw [isS j0], hn, hl, k _ _ _ (Pur.refl fh) (i_int F)⟩) (by decide) (by decide) he
theorem p_strI {n : Int} (hm : X.mg "str" = none) (hg : Gl X "str") (ha : P3 X Γ a (.int n)) (hl : n.natAbs.log2 < 1920) (he : starEach [a] X.env = (false, eval a X.env) :: starEach [] X.env := by rfl) : P3 X Γ (.Call (.Name "str" p) [a] [] pos) (.str (toString n)) :=
  p_callTy call_strI hg hm bt_str (pl_cons ha pl_nil he) (fun vs H F Q fh i k => by
    obtain ⟨v, rfl, j0⟩ := isL1 i
    exact ⟨n, by rw [isI j0], hl, k _ _ _ (Pur.refl fh) (i_str F)⟩) (by decide) (by decide) he
def rSlS : V → Option Int → Option Int → Hp → VK → Prop := fun v lo hi H Q => ∃ x, v = .str x ∧ x.length ≤ sizeLine ∧ Q (.str (Txt.slice x lo hi)) H
theorem sl_str : SlR X rSlS := by
  intro pins s σ H x v vl vu lo hi sl Q I rx hs pl pu h
  obtain ⟨x, rfl, hz, q⟩ := h
  obtain ⟨t, rfl⟩ := rx
  refine ⟨"str", _, F.slot_str_getitem.lookup, typeIs_str _ _ _, ?_⟩
  have fin : ∀ l u : Option (Int × Tok), vl = partValue l → vu = partValue u → lo = l.map (·.1) → hi = u.map (·.1) → wpAny (model X.prog X.w) X.A (getItem (.str x t) (.ref sl)) (EP X pins σ Q) X.xe s := fun l u e1 e2 e3 e4 => by
    subst e1 e2 e3 e4
    exact wpAny_getItem_str_slice (l := l) (u := u) (st := none) hs rfl (post_val_or_str ⟨Nat.le_trans (Txt.slice_le x _ _) hz, fun t' k => ⟨.str _, H, I.tok k, ⟨t', rfl⟩, q⟩⟩)
  cases pl with
  | none =>
    cases pu with
    | none => exact fin none none rfl rfl rfl rfl
    | int j uj => exact fin none (some (j, uj)) rfl rfl rfl rfl
  | int i ui =>
    cases pu with
    | none => exact fin (some (i, ui)) none rfl rfl rfl rfl
    | int j uj => exact fin (some (i, ui)) (some (j, uj)) rfl rfl rfl rfl
theorem p_sliceS {lo hi : Option Expr} {i j : Option Int} {p2 : Pos} (ha : P3 X Γ a (.str x)) (hl : PO3 X Γ lo i) (hh : PO3 X Γ hi j) (hz : x.length ≤ sizeLine) : P3 X Γ (.Subscript a (.Slice lo hi none p2) pos) (.str (Txt.slice x i j)) :=
  PE.of (pe_slice sl_str ha hl hh) fun σ H Q ⟨F, fh, sl, q⟩ => tSl3 ⟨F, fh, sl, fun v H2 F2 p i1 => ⟨x, isS i1, hz, q _ _ _ p (i_str F2)⟩⟩
end
end L3
set_option Elab.async false
set_option linter.all false
set_option maxRecDepth 100000
set_option maxHeartbeats 4000000
namespace L3
open PySem PySem.Spec PyProof.Rows L2 Builtin Builtin.Str
def Free (c : Nat) (x : Str) : Prop := c ∉ x.cps.toList
theorem cut_at {c : Nat} : ∀ {a b A B : List Nat}, c ∉ a → c ∉ b → a ++ c :: A = b ++ c :: B → a = b ∧ A = B
  | [], [], _, _, _, _, h => ⟨rfl, (List.cons.inj h).2⟩
  | [], y :: b, _, _, _, h2, h => absurd (List.cons.inj h).1 (fun e => h2 (by rw [e]; exact List.mem_cons_self))
  | x :: a, [], _, _, h1, _, h => absurd (List.cons.inj h).1 (fun e => h1 (by rw [← e]; exact List.mem_cons_self))
  | x :: a, y :: b, _, _, h1, h2, h => by
    obtain ⟨e1, e2⟩ := List.cons.inj h
    obtain ⟨r1, r2⟩ := cut_at (fun z => h1 (List.mem_cons_of_mem _ z)) (fun z => h2 (List.mem_cons_of_mem _ z)) e2
    exact ⟨by rw [e1, r1], r2⟩
theorem str_ext {a b : Str} (h : a.cps.toList = b.cps.toList) : a = b := Str.ext' (Array.toList_inj.mp h)
theorem join_two {s x y : Str} {r : List Str} : Str.join s (x :: y :: r) = x ++ s ++ Str.join s (y :: r) := rfl
theorem join_cps {c : Nat} {x y : Str} {r : List Str} : (Str.join ⟨#[c]⟩ (x :: y :: r)).cps.toList = x.cps.toList ++ c :: (Str.join ⟨#[c]⟩ (y :: r)).cps.toList := by
  rw [join_two, Str.cps_append, Str.cps_append]
  simp
theorem join_inj {c : Nat} : ∀ {ps qs : List Str}, ps ≠ [] → qs ≠ [] → (∀ p ∈ ps, Free c p) → (∀ q ∈ qs, Free c q) → (Str.join ⟨#[c]⟩ ps).cps.toList = (Str.join ⟨#[c]⟩ qs).cps.toList → ps = qs
  | [], _, h, _, _, _, _ => absurd rfl h
  | _ :: _, [], _, h, _, _, _ => absurd rfl h
  | [p], [q], _, _, _, _, h => by rw [str_ext (a := p) (b := q) h]
  | [p], q :: q2 :: qs, _, _, hp, _, h => by
    rw [join_cps] at h
    exact absurd (show c ∈ p.cps.toList by rw [show p.cps.toList = _ from h]; simp) (hp p (by simp))
  | p :: p2 :: ps, [q], _, _, _, hq, h => by
    rw [join_cps] at h
    exact absurd (show c ∈ q.cps.toList by rw [show q.cps.toList = _ from h.symm]; simp) (hq q (by simp))
  | p :: p2 :: ps, q :: q2 :: qs, _, _, hp, hq, h => by
    rw [join_cps, join_cps] at h
    obtain ⟨e1, e2⟩ := cut_at (hp p (by simp)) (hq q (by simp)) h
    rw [str_ext e1, join_inj (by simp) (by simp) (fun z hz => hp z (List.mem_cons_of_mem _ hz)) (fun z hz => hq z (List.mem_cons_of_mem _ hz)) e2]
theorem split_ne (x y : Str) : Txt.split x y ≠ [] := by
  unfold Txt.split
  split
  · simp
  · split
    · simp
    · intro e
      have := congrArg List.length e
      rw [length_partsBetween] at this
      simp at this
theorem split_join {c : Nat} {ps : List Str} (h0 : ps ≠ []) (h : ∀ p ∈ ps, Free c p) : Txt.split (Txt.join ⟨#[c]⟩ ps) ⟨#[c]⟩ = ps := by
  show Txt.split (glued ⟨#[c]⟩ ps) _ = _
  rw [StrLaws.glued_eq_join]
  exact join_inj (split_ne _ _) h0 (StrLaws.split_free _ _) h (by rw [StrLaws.join_split])
theorem slice_last {x : Str} {c : Nat} : Txt.slice (x ++ ⟨#[c]⟩) none (some (-1)) = x := by
  have hl : (x ++ (⟨#[c]⟩ : Str)).length = x.length + 1 := len_app
  have h := eq_of_beq (slice_closes_to_neg (x := x ++ ⟨#[c]⟩) (j := -1) (k := x.length) (by decide) (by omega) (by omega))
  rw [h]
  refine str_ext ?_
  have e : x.cps.toList.length = x.length := Array.length_toList
  simp [Str.cps_append, ← e]
def numS (n : Nat) : Str := Str.ofString (toString (n : Int))
theorem dig_cut {m : Nat} (h : ¬ m < 10) : Nat.toDigits 10 m = Nat.toDigits 10 (m / 10) ++ [Nat.digitChar (m % 10)] := by
  have hm : m % 10 < 10 := Nat.mod_lt m (by decide)
  have t : Nat.toDigits 10 (m / 10) ++ Nat.toDigits 10 (m % 10) = Nat.toDigits 10 (10 * (m / 10) + m % 10) := Nat.toDigits_append_toDigits (by decide) (by omega) hm
  rw [Nat.div_add_mod, Nat.toDigits_of_lt_base hm] at t
  exact t.symm
theorem dig_len : ∀ (k m : Nat), m < 10 ^ (k + 1) → (Nat.toDigits 10 m).length ≤ k + 1
  | 0, m, h => by rw [Nat.toDigits_of_lt_base (by simpa using h)]; simp
  | k + 1, m, h => by
    by_cases hm : m < 10
    · rw [Nat.toDigits_of_lt_base hm]; simp
    · rw [dig_cut hm, List.length_append, List.length_singleton]
      have := dig_len k (m / 10) (by rw [Nat.pow_succ] at h; omega)
      omega
theorem dig_head (m : Nat) (h : 1 ≤ m) : ∃ ch rest, Nat.toDigits 10 m = ch :: rest ∧ ch.toNat ≠ 48 := by
  induction m using Nat.strongRecOn with
  | _ m ih =>
    by_cases hm : m < 10
    · rw [Nat.toDigits_of_lt_base hm]
      exact ⟨_, [], rfl, by have : ∀ d : Nat, d < 10 → 1 ≤ d → (Nat.digitChar d).toNat ≠ 48 := by decide
                            exact this m hm h⟩
    · obtain ⟨ch, rest, e, z⟩ := ih (m / 10) (by omega) (by omega)
      exact ⟨ch, rest ++ [Nat.digitChar (m % 10)], by rw [dig_cut hm, e]; rfl, z⟩
theorem num_cps (m : Nat) : (numS m).cps.toList = (Nat.toDigits 10 m).map Char.toNat := PySem.W.KIN.signs_num m
theorem num_len {m : Nat} (h : m < 10 ^ 60) : (numS m).length ≤ 60 := by
  have e : (numS m).length = (numS m).cps.toList.length := Array.length_toList.symm
  rw [e, num_cps, List.length_map]
  exact dig_len 59 m h
theorem num_dig {m c : Nat} (h : c ∈ (numS m).cps.toList) : 48 ≤ c ∧ c ≤ 57 := by
  rw [num_cps] at h
  obtain ⟨ch, hch, e⟩ := List.mem_map.mp h
  rw [← e]
  exact digit_range (Nat.isDigit_of_mem_toDigits (by decide) (by decide) hch)
theorem num_head {m : Nat} (h : 1 ≤ m) : ∃ c rest, (numS m).cps.toList = c :: rest ∧ c ≠ 48 := by
  obtain ⟨ch, rest, e, z⟩ := dig_head m h
  exact ⟨ch.toNat, rest.map Char.toNat, by rw [num_cps, e]; rfl, z⟩
theorem num_read {m : Nat} (h : 1 ≤ m) (h1 : m < 10 ^ 60) : intText? (numS m) = some (m : Int) := by
  obtain ⟨c, rest, e, _⟩ := num_head h
  have q := intText_digits (x := numS m) (fun c hc => num_dig hc) (by rw [e]; simp) (Nat.le_trans (num_len h1) (by decide))
  rw [num_cps, PySem.W.KIN.val_back] at q
  exact q
theorem num_free {m c : Nat} (h : ¬ (48 ≤ c ∧ c ≤ 57)) : Free c (numS m) := fun z => h (num_dig z)
end L3
set_option Elab.async false
set_option linter.all false
set_option maxRecDepth 100000
set_option maxHeartbeats 4000000
namespace L3
open PySem PySem.Spec PyProof.Rows L2 Builtin Builtin.Str
theorem blank_eq : (" " : Str) = ⟨#[32]⟩ := by decide +kernel
theorem feed_eq : ("\n" : Str) = ⟨#[10]⟩ := by decide +kernel
theorem slash_eq : ("/" : Str) = ⟨#[47]⟩ := by decide +kernel
theorem colon_eq : (":" : Str) = ⟨#[58]⟩ := by decide +kernel
theorem colon_blank : (": " : Str) = ":" ++ " " := by decide +kernel
theorem start_blank : ("start " : Str) = "start" ++ " " := by decide +kernel
structure RowOk (r : Rule) : Prop where
  h : IsSym r.1
  b0 : 1 ≤ r.2.1.length
  b4 : r.2.1.length ≤ 4
  b : ∀ x ∈ r.2.1, IsSym x
  q : 0 < r.2.2
  n : r.2.2.num < 10 ^ 60
  d : r.2.2.den < 10 ^ 60
def shS (q : Rat) : Str := numS q.num.toNat ++ "/" ++ numS q.den
def rowS (r : Rule) : Str := r.1 ++ " " ++ numS r.2.2.num.toNat ++ "/" ++ numS r.2.2.den ++ ": " ++ Txt.join " " r.2.1
def txtS (st : Str) (rs : List Rule) : Str := Txt.join "\n" (("start " ++ st) :: rs.map rowS)
theorem mem_app {c : Nat} {x y : Str} : c ∈ (x ++ y).cps.toList ↔ c ∈ x.cps.toList ∨ c ∈ y.cps.toList := by
  rw [Str.cps_append, Array.toList_append, List.mem_append]
theorem free_app {c : Nat} {x y : Str} (h1 : Free c x) (h2 : Free c y) : Free c (x ++ y) := fun z => (mem_app.mp z).elim h1 h2
theorem sym_free {c : Nat} {x : Str} (h : IsSym x) (hc : isLet c = false) : Free c x := fun z => by rw [h.2.2 c z] at hc; cases hc
theorem free_one {c e : Nat} (h : c ≠ e) : Free c ⟨#[e]⟩ := fun z => h (by simpa using z)
theorem free_join {c e : Nat} (hc : c ≠ e) : ∀ {ps : List Str}, (∀ p ∈ ps, Free c p) → Free c (Str.join ⟨#[e]⟩ ps)
  | [], _ => fun z => by cases z
  | [p], h => h p (by simp)
  | p :: q :: r, h => by
    rw [join_two]
    exact free_app (free_app (h p (by simp)) (free_one hc)) (free_join hc fun z hz => h z (List.mem_cons_of_mem _ hz))
theorem tjoin {s : Str} {ps : List Str} : Txt.join s ps = Str.join s ps := StrLaws.glued_eq_join s ps
theorem shS_free {c : Nat} {q : Rat} (h : ¬ (48 ≤ c ∧ c ≤ 57)) (h2 : c ≠ 47) : Free c (shS q) := free_app (free_app (num_free h) (by rw [slash_eq]; exact free_one h2)) (num_free h)
theorem row_words {r : Rule} (h : 1 ≤ r.2.1.length) : rowS r = Txt.join ⟨#[32]⟩ (r.1 :: (shS r.2.2 ++ ⟨#[58]⟩) :: r.2.1) := by
  unfold rowS shS
  cases e : r.2.1 with
  | nil => rw [e] at h; exact absurd h (by decide)
  | cons x xs =>
    rw [tjoin, tjoin, join_two, join_two, colon_blank, blank_eq, colon_eq]
    simp only [Str.append_assoc]
theorem start_words {st : Str} : ("start " : Str) ++ st = Txt.join ⟨#[32]⟩ [("start" : Str), st] := by
  rw [tjoin, join_two, start_blank, blank_eq]
  rfl
theorem row_split {r : Rule} (h : RowOk r) : Txt.split (rowS r) " " = r.1 :: (shS r.2.2 ++ ":") :: r.2.1 := by
  rw [row_words h.b0, blank_eq, colon_eq]
  refine split_join (by simp) fun p hp => ?_
  rcases List.mem_cons.mp hp with rfl | hp
  · exact sym_free h.h (by decide)
  · rcases List.mem_cons.mp hp with rfl | hp
    · exact free_app (shS_free (by decide) (by decide)) (free_one (by decide))
    · exact sym_free (h.b p hp) (by decide)
theorem start_split {st : Str} (h : IsSym st) : Txt.split ("start " ++ st) " " = [("start" : Str), st] := by
  rw [start_words, blank_eq]
  refine split_join (by simp) fun p hp => ?_
  rcases List.mem_cons.mp hp with rfl | hp
  · show 32 ∉ _; decide +kernel
  · rw [List.mem_singleton.mp hp]; exact sym_free h (by decide)
theorem sh_split {q : Rat} : Txt.split (shS q) "/" = [numS q.num.toNat, numS q.den] := by
  have e : shS q = Txt.join ⟨#[47]⟩ [numS q.num.toNat, numS q.den] := by rw [tjoin, join_two]; unfold shS; rw [slash_eq]; rfl
  rw [e, slash_eq]
  refine split_join (by simp) fun p hp => ?_
  rcases List.mem_cons.mp hp with rfl | hp
  · exact num_free (by decide)
  · rw [List.mem_singleton.mp hp]; exact num_free (by decide)
theorem row_free {r : Rule} (h : RowOk r) : Free 10 (rowS r) := by
  rw [row_words h.b0, tjoin]
  refine free_join (by decide) fun p hp => ?_
  rcases List.mem_cons.mp hp with rfl | hp
  · exact sym_free h.h (by decide)
  · rcases List.mem_cons.mp hp with rfl | hp
    · exact free_app (shS_free (by decide) (by decide)) (free_one (by decide))
    · exact sym_free (h.b p hp) (by decide)
theorem txt_split {st : Str} {rs : List Rule} (hs : IsSym st) (h : ∀ r ∈ rs, RowOk r) : Txt.split (txtS st rs) "\n" = ("start " ++ st) :: rs.map rowS := by
  unfold txtS
  rw [feed_eq]
  refine split_join (by simp) fun p hp => ?_
  rcases List.mem_cons.mp hp with rfl | hp
  · refine free_app ?_ (sym_free hs (by decide))
    show 10 ∉ _
    decide +kernel
  · obtain ⟨r, hr, rfl⟩ := List.mem_map.mp hp
    exact row_free (h r hr)
theorem sym_len {x : Str} (h : IsSym x) : x.length ≤ 8 := h.2.1
theorem num_nat {q : Rat} (h : 0 < q) (hn : q.num < 10 ^ 60) : 1 ≤ q.num.toNat ∧ q.num.toNat < 10 ^ 60 ∧ (q.num.toNat : Int) = q.num := by
  have := My.q_num_pos h
  have e : ((10 ^ 60 : Nat) : Int) = 10 ^ 60 := by norm_cast
  omega
theorem shS_len {r : Rule} (h : RowOk r) : (shS r.2.2).length ≤ 121 := by
  have h1 := num_len (num_nat h.q h.n).2.1
  have h2 := num_len h.d
  have e : (shS r.2.2).length = (numS r.2.2.num.toNat ++ "/" : Str).length + (numS r.2.2.den).length := len_app
  have e2 : (numS r.2.2.num.toNat ++ "/" : Str).length = (numS r.2.2.num.toNat).length + ("/" : Str).length := len_app
  have e3 : ("/" : Str).length = 1 := by decide +kernel
  omega
theorem join_len {s : Str} {B : Nat} {ps : List Str} (h : ∀ p ∈ ps, p.length ≤ B) : (Txt.join s ps).length ≤ ps.length * (B + s.length) := by
  rw [tjoin]
  have h1 := StrLaws.join_length_le s ps
  have h2 := StrLaws.sumLen_le ps h
  rw [Nat.mul_add]
  omega
theorem row_len {r : Rule} (h : RowOk r) : (rowS r).length ≤ 1000 := by
  rw [row_words h.b0]
  have hl : (r.1 :: (shS r.2.2 ++ ⟨#[58]⟩) :: r.2.1).length = r.2.1.length + 2 := rfl
  have := join_len (s := ⟨#[32]⟩) (B := 122) (ps := r.1 :: (shS r.2.2 ++ ⟨#[58]⟩) :: r.2.1) fun p hp => by
    rcases List.mem_cons.mp hp with rfl | hp
    · exact Nat.le_trans (sym_len h.h) (by decide)
    · rcases List.mem_cons.mp hp with rfl | hp
      · have e : (shS r.2.2 ++ (⟨#[58]⟩ : Str)).length = (shS r.2.2).length + 1 := len_app
        have := shS_len h
        omega
      · exact Nat.le_trans (sym_len (h.b p hp)) (by decide)
  have e : (⟨#[32]⟩ : Str).length = 1 := rfl
  rw [hl, e] at this
  have := h.b4
  omega
theorem txt_len {st : Str} {rs : List Rule} (hs : IsSym st) (hl : rs.length ≤ 30) (h : ∀ r ∈ rs, RowOk r) : (txtS st rs).length ≤ 40000 := by
  unfold txtS
  have e1 : (("start " ++ st) :: rs.map rowS).length = rs.length + 1 := by simp
  have := join_len (s := "\n") (B := 1000) (ps := ("start " ++ st) :: rs.map rowS) fun p hp => by
    rcases List.mem_cons.mp hp with rfl | hp
    · have e : ("start " ++ st : Str).length = ("start " : Str).length + st.length := len_app
      have e2 : ("start " : Str).length = 6 := by decide +kernel
      have := sym_len hs
      omega
    · obtain ⟨r, hr, rfl⟩ := List.mem_map.mp hp
      exact row_len (h r hr)
  have e : ("\n" : Str).length = 1 := by decide +kernel
  rw [e1, e] at this
  omega
end L3
namespace L3
open PySem
theorem all_true {α : Type} {l : List α} : (l.map fun _ => true).all id = true := by simp
def isDig (n : Nat) : Bool := decide (48 ≤ n) && decide (n ≤ 57)
theorem isDig_of {c : Nat} (h : 48 ≤ c ∧ c ≤ 57) : isDig c = true := by unfold isDig; rw [decide_eq_true h.1, decide_eq_true h.2]; rfl
theorem one_eq {c d : Nat} {x : Str} (h : (⟨#[c]⟩ : Str) = x) (hx : x = ⟨#[d]⟩) : c = d := by
  rw [hx] at h
  injection h with h
  simpa using h
theorem shS_len' {q : Rat} (h0 : 0 < q) (h1 : q.num < 10 ^ 60) (h2 : q.den < 10 ^ 60) : (shS q).length ≤ 121 := by
  have h3 := num_len (num_nat h0 h1).2.1
  have h4 := num_len h2
  have e : (shS q).length = (numS q.num.toNat ++ "/" : Str).length + (numS q.den).length := len_app
  have e2 : (numS q.num.toNat ++ "/" : Str).length = (numS q.num.toNat).length + ("/" : Str).length := len_app
  have e3 : ("/" : Str).length = 1 := by decide +kernel
  omega
def C_isNum : List D → D → Prop := fun ds d => ∃ m : Nat, ds = [.str (numS m)] ∧ d = .bl true ∧ 1 ≤ m ∧ m < 10 ^ 60
def C_readShare : List D → D → Prop := fun ds d => ∃ q : Rat, ds = [.str (shS q)] ∧ d = sh q ∧ 0 < q ∧ q.num < 10 ^ 60 ∧ q.den < 10 ^ 60
def C_readRule : List D → D → Prop := fun ds d => ∃ r : Rule, ds = [.str (rowS r)] ∧ d = ruleD r ∧ RowOk r
def C_readStart : List D → D → Prop := fun ds d => ∃ st : Str, ds = [.str ("start " ++ st)] ∧ d = .str st ∧ IsSym st
noncomputable def C_read (C : Addr) : List D → D → Prop := fun ds d => ∃ (st : Str) (rs : List Rule), ds = [.str (txtS st rs)] ∧ d = gD C st rs ∧ IsSym st ∧ GV st rs ∧ ∀ r ∈ rs, RowOk r
end L3
namespace L3
open PySem Builtin Builtin.Str
theorem start_len {st : Str} (h : IsSym st) : ("start " ++ st : Str).length ≤ 14 := by
  have e : ("start " ++ st : Str).length = ("start " : Str).length + st.length := len_app
  have e2 : ("start " : Str).length = 6 := by decide +kernel
  have := sym_len h
  omega
theorem join_ok {s : Str} {B : Nat} {ts : List Str} (h : ∀ p ∈ ts, p.length ≤ B) (hz : ts.length * (B + s.length) ≤ 1000000) : JoinOk s ts = true := by
  have h2 := StrLaws.sumLen_le ts h
  unfold JoinOk
  rw [StrLaws.joinTotal]
  rw [Nat.mul_add] at hz
  have e : tooLong ((ts.map (·.length)).sum + ts.length * s.length) = false := by
    unfold tooLong
    rw [decide_eq_false_iff_not, sizeLine_eq]
    omega
  rw [e]
  rfl
theorem globStr {K : PySem.W.Frag} {h : Heap} {mg : Str → Option Value} (X : K.In h) (G : h.Ns mainGlobals mg) {x y : Str} {t : Tok} (a : PySem.W.nsIn K mainGlobals x = some (some (.str y t))) : GlobD K mg x (.str y) :=
  ⟨.str y, .str y t, PySem.W.mg_of X G a, ⟨t, rfl⟩, fun F => i_str F⟩
theorem log_small' {m : Nat} (h : m < 10 ^ 60) : ((m : Int)).natAbs.log2 < 1920 := by
  rw [Int.natAbs_natCast]
  by_cases h0 : m = 0
  · subst h0; decide
  · exact (Nat.log2_lt h0).mpr (Nat.lt_of_lt_of_le h (by decide +kernel))
theorem log_small {n : Int} (h : n < 10 ^ 60) (h0 : 0 ≤ n) : n.natAbs.log2 < 1920 := by
  obtain ⟨m, rfl⟩ := Int.eq_ofNat_of_zero_le h0
  exact log_small' (by have e : ((10 ^ 60 : Nat) : Int) = 10 ^ 60 := by norm_cast
                       omega)
end L3
set_option Elab.async false
set_option linter.all false
set_option maxRecDepth 100000
set_option maxHeartbeats 4000000
namespace L2
open PySem PySem.Spec PySem.Calls PyProof.Rows
theorem note_frame {x : Value} {env env' : Env} (h : env.frame = env'.frame) : noteFrame x env = noteFrame x env' := by
  unfold noteFrame PySem.frameOf
  rw [h]
theorem frames_but {h h' b b' : Heap} (hb : ∀ a o, b'.get? a = some o → b.get? a = some o) (k : ∀ a o, b.get? a = none → h.get? a = some o → (∀ vs, o.data ≠ .fields vs) → ∃ o', h'.get? a = some o' ∧ ∀ vs, o'.data ≠ .fields vs) : ∀ {l : List Env}, h.FunFrames b l → h'.FunFrames b' l
  | [], x => x
  | env :: l, x => by
    obtain ⟨hk, ⟨L, o, e1, e2, e3, e4⟩, r⟩ := (show env.scope.kind ≠ .module ∧ (∃ L o, env.frame = some L ∧ b.get? L = none ∧ h.get? L = some o ∧ ∀ vs, o.data ≠ .fields vs) ∧ h.FunFrames b l from x)
    obtain ⟨o', q1, q2⟩ := k L o e2 e3 e4
    refine (show env.scope.kind ≠ .module ∧ (∃ L o, env.frame = some L ∧ b'.get? L = none ∧ h'.get? L = some o ∧ ∀ vs, o.data ≠ .fields vs) ∧ h'.FunFrames b' l from ⟨hk, ⟨L, o', e1, ?_, q1, q2⟩, frames_but hb k r⟩)
    cases z : b'.get? L with
    | none => rfl
    | some u => rw [hb _ _ z] at e2; cases e2
section
variable {X : Cx} {pins : List (Addr × Obj)} {σ : St} {H : Hp} {s : Shared}
theorem Fly.onC (O : Own X) (I : Inv X pins σ H s) {H' : Hp} {s' : Shared} {ea t C : Addr} {cls : Value} {B B' h2 : Heap} (F : Fly X.prog X.w X.stack H s ea cls H' B s') (f : Heap.FlyingW B' X.outer ea cls (.ref t) h2) (hB : ∀ b o, b ≠ C → B.get? b = some o → B'.get? b = some o) (hC : X.s₀.heap.objs.size ≤ C) (hH : H' C = none)
    (k : ∀ b ∈ frs X.stack, ∀ o, s'.heap.get? b = some o → ∃ sl, h2.get? b = some { o with slots := sl }) :
    Fly X.prog X.w X.outer X.H₀ X.s₀ ea cls H' B' { s' with heap := h2 } := by
  have ox : ∀ b : Addr, b ∉ X.ex := fun b z => by rw [O.ex] at z; cases z
  have neC : ∀ b o, X.s₀.heap.get? b = some o → b ≠ C := fun b o q => Nat.ne_of_lt (Nat.lt_of_lt_of_le (Heap.lt_size q) hC)
  have sub : ∀ b ∈ frs X.outer, b ∈ frs X.stack := fun b hb => by
    rw [O.stk]
    unfold frs
    rw [List.filterMap_cons, O.fr]
    exact List.mem_cons_of_mem _ hb
  have cov : ∀ b o, X.s₀.heap.get? b = some o → X.H₀ b = none → b ∉ frs X.outer → B'.get? b = some o := fun b o q n hb =>
    hB b o (neC b o q) (F.cov b o (I.base.keep b o q n hb (ox b)) (I.base.free b o q n (ox b)) (I.offFrame O q hb))
  have cov2 : ∀ b o, X.s₀.heap.get? b = some o → b ∉ frs X.outer → ∃ o', B'.get? b = some o' := fun b o q hb => by
    obtain ⟨o', e1⟩ := I.base.there b o q (ox b)
    obtain ⟨o2, e2⟩ := F.cov2 b o' e1 (I.offFrame O q hb)
    exact ⟨o2, hB b o2 (neC b o q) e2⟩
  refine ⟨F.os.trans I.os, F.bare, ⟨t, f⟩, F.hok.sub fun b u hb q => hB b u (fun z => hb (by rw [z]; exact hH)) q, ⟨fun b o q n hb hx => f.1 b o (cov b o q n hb), fun b o q n hb hx => ?_, fun b o q n hx => ?_, fun b o q hx => ?_, fun b xs e => F.un.tups b xs (I.base.tups b xs e),
    fun b o xs e => F.un.frzs b o xs (I.base.frzs b o xs e), fun b ps e => ?_⟩, cov, cov2⟩
  · obtain ⟨sl, e1⟩ := I.base.slot b o q n hb (ox b)
    obtain ⟨sl1, e2⟩ := F.un.slot b _ e1 (I.stkFree b (sub b hb)) (sub b hb) (by simp)
    obtain ⟨sl2, e4⟩ := k b (sub b hb) _ e2
    exact ⟨sl2, e4⟩
  · obtain ⟨o', e1⟩ := I.base.there b o q (ox b)
    exact F.un.free b o' e1 (I.base.free b o q n (ox b)) (by simp)
  · by_cases hb : b ∈ frs X.outer
    · obtain ⟨t0, f0⟩ := F.fly
      obtain ⟨o', e2, nf⟩ := (f0.2.2.1.mem (sub b hb)).2
      obtain ⟨sl2, e3⟩ := k b (sub b hb) _ e2
      exact ⟨_, e3⟩
    · obtain ⟨o', e⟩ := cov2 b o q hb
      exact ⟨o', f.1 b o' e⟩
  · obtain ⟨m1, e1⟩ := I.base.tbls b ps e
    obtain ⟨m2, e2⟩ := F.un.tbls b _ e1
    exact ⟨m1 ++ m2, by rw [e2, Array.append_assoc]⟩
end
def PassC (X : Cx) (E : XK) : Prop := ∀ (pins : List (Addr × Obj)) (σ : St) (H : Hp) (s : Shared) (ev : Value) (s' : Shared) (C : Addr) (m : Str → Option Value) (cenv : Env), Inv X pins σ H s → CXo X.prog X.w X.stack H s E ev s' → s.heap.Ns C m → H C = none → C ∉ frs X.stack → X.s₀.heap.objs.size ≤ C → cenv.frame = X.env.frame →
  wpAny (model X.prog X.w) X.A (noteFrame ev cenv) (fun _ s1 => ∃ m', s1.heap.Ns C m' ∧ ∀ h', Heap.SameBut C s1.heap h' → ∀ (Q : Value → Shared → Prop), wpAny (model X.prog X.w) X.A (PySem.passOn "comprehension.variables-let-go" ev cenv) Q X.xe { s1 with heap := h' }) (fun _ _ => False) s'
section
variable {P : Program} {w : World} {K : PySem.W.Frag} {mg : Str → Option Value} {base : Heap} {N : List Str} {qual : Str} {scope : Scope} {f : Addr} {cd : Value} {A : Around} {outer : List Env} {s : Shared} {H : Hp} {E E' : XK}
theorem passC_o (hE : ∀ c d H', E' c d H' → E c d H') : PassC (cxOf (CXo P w) P w K mg base N qual scope f cd A outer s H E) E' := by
  intro pins σ H1 s1 ev s' C m cenv I hc hn hC nf hs hf
  have O : Own (cxOf (CXo P w) P w K mg base N qual scope f cd A outer s H E) := own_cx
  obtain ⟨ea, cls, H', B, rfl, F, q⟩ := hc
  obtain ⟨t, st, he, ff, tr⟩ := F.fly
  rw [note_frame hf]
  refine wpAny_noteFrame_onW I.ok.frames ff rfl tr st he fun h2 hn2 => ?_
  obtain ⟨n1, n2, n3, n4⟩ := hn2
  obtain ⟨o, es, ep, ho, hd, hk, hm⟩ := hn
  have cB : B.get? C = some o := F.cov C o ho hC nf
  refine ⟨m, ⟨o, es, ep, n1 _ _ cB, hd, hk, hm⟩, fun h3 hs3 Q => ?_⟩
  obtain ⟨oe, vs, T, oT, ts, t1, t2, t3, t4, t5, t6, t7, t8, t9⟩ := n3
  have eC : ea ≠ C := fun z => by rw [z, cB] at he; cases he
  have TC : T ≠ C := fun z => by rw [z, cB] at t5; cases t5
  have e3 : h3.get? ea = some oe := by rw [hs3.2 ea eC]; exact t1
  have T3 : h3.get? T = some oT := by rw [hs3.2 T TC]; exact t7
  have hts : 3 < ts.size := by
    have := (Array.getElem?_eq_some_iff.mp t9).1
    exact this
  unfold PySem.passOn
  refine wpAny_bind (wpAny_field e3 t3 t4 ?_)
  show wpAny _ _ (do setFlight (Value.ref ea) cenv.frame; throw (Value.ref ea)) _ _ _
  refine wpAny_bind ?_
  unfold setFlight
  refine wpAny_bind (wpAny_field e3 t3 t4 ?_)
  show wpAny _ _ (setField (Value.ref T) 3 (cenv.frame.elim Value.none fun f => rawInt ↑f)) _ _ _
  rw [hf]
  refine wpAny_setField T3 t8 hts (wpAny_throw ?_)
  have ed : Obj.mapFields (fun x => x.setIfInBounds 3 (rawInt ↑s.heap.objs.size)) oT = { oT with data := .fields (ts.setIfInBounds 3 (rawInt ↑s.heap.objs.size)) } := by
    obtain ⟨c, d, da, sl⟩ := oT
    dsimp only at t8
    subst t8
    rfl
  generalize h4e : h3.update T (Obj.mapFields fun x => x.setIfInBounds 3 ((cxOf (CXo P w) P w K mg base N qual scope f cd A outer s H E).env.frame.elim Value.none fun f => rawInt ↑f)) = h4
  have T4 : h4.get? T = some { oT with data := .fields (ts.setIfInBounds 3 (rawInt ↑s.heap.objs.size)) } := by
    rw [← ed, ← h4e]
    exact Heap.get?_update_self _ T3 (by rw [show Obj.mapFields (fun x => x.setIfInBounds 3 ((cxOf (CXo P w) P w K mg base N qual scope f cd A outer s H E).env.frame.elim Value.none fun f => rawInt ↑f)) oT = _ from ed]; rfl)
  have k4 : ∀ b o, b ≠ C → b ≠ T → h2.get? b = some o → h4.get? b = some o := fun b o b1 b2 e => by
    rw [← h4e, Heap.get?_update_ne _ _ _ _ b2, hs3.2 b b1]
    exact e
  have nT : ∀ b o, h2.get? b = some o → (∀ vs, o.data ≠ .fields vs) → b ≠ T := fun b o e nf z => by
    rw [z, t7] at e
    cases e
    exact nf _ t8
  have hB : ∀ b o, (PySem.W.hideAll B [C]).get? b = some o → B.get? b = some o := fun b o e => PySem.W.of_hideAll _ e
  have nC : ∀ b o, (PySem.W.hideAll B [C]).get? b = some o → b ≠ C := fun b o e z => by
    rw [z, PySem.W.hideAll_none [C] (by simp)] at e
    cases e
  have held : (PySem.W.hideAll B [C]).HeldW ((cxOf (CXo P w) P w K mg base N qual scope f cd A outer s H E).env :: outer) ea cls (.ref t) s.heap.objs.size h4 := by
    refine ⟨fun b o e => k4 b o (nC b o e) (fun z => ?_) (n1 b o (hB b o e)), ?_, frames_but hB (fun b o e1 e2 e3 => ⟨o, k4 b o (fun z => ?_) (nT b o e2 e3) e2, e3⟩) n2, oe, vs, T, _, _, k4 _ _ eC (fun z => t6 z.symm) t1, t2, t3, t4, ?_, t6, T4, rfl, ?_⟩
    · rw [z] at e
      rw [hB _ _ e] at t5
      cases t5
    · cases z : (PySem.W.hideAll B [C]).get? ea with
      | none => rfl
      | some u => rw [hB _ _ z] at he; cases he
    · rw [z, cB] at e1
      cases e1
    · cases z : (PySem.W.hideAll B [C]).get? T with
      | none => rfl
      | some u => rw [hB _ _ z] at t5; cases t5
    · rw [Array.getElem?_setIfInBounds]
      simp [hts]
  have tat := held.2.2.2
  refine wpAny_bind (wpAny_noteFrame_againW rfl tat ?_)
  have held2 : (PySem.W.hideAll B [C]).HeldW outer ea cls (.ref t) s.heap.objs.size h4 := ⟨held.1, held.2.1, held.2.2.1.2.2, held.2.2.2⟩
  refine wpAny_landsW held2 fun h5 f5 k5 => ?_
  refine ⟨ea, cls, H', _, rfl, Fly.onC (s' := s') (C := C) (B' := PySem.W.hideAll B [C]) O I F f5 (fun b o hb e => PySem.W.hideAll_get _ e (by simpa using hb)) hs (F.un.free C o ho hC (by simp)) fun b hb o1 e1 => ?_, hE _ _ _ q⟩
  obtain ⟨u, e2, nf2⟩ := (ff.mem hb).2
  rw [e1] at e2
  cases e2
  obtain ⟨sl, e3⟩ := n4 b o1 e1 nf2
  have nf3 : ∀ vs, ({ o1 with slots := sl } : Obj).data ≠ .fields vs := nf2
  obtain ⟨sl2, e5⟩ := k5 b _ (k4 b _ (fun z => nf (by rw [← z]; exact hb)) (nT b _ e3 nf3) e3) nf3
  exact ⟨sl2, e5⟩
end
end L2
set_option Elab.async false
set_option linter.all false
set_option maxRecDepth 100000
set_option maxHeartbeats 4000000
namespace L3
open PySem PySem.Spec PySem.Calls PyProof.Rows L2
theorem comp_loopX {prog : Program} {w : World} {A : Around} {R : Result → Shared → Prop} {s : Shared} {elt target iter : Expr} {scope : Scope} {pos : Pos} {it acc : Value} {env : Env} (J : Nat → Shared → Prop)
    (turn : ∀ n s, J n s → wpAny (model prog w) A (pyNext it) (fun r s₁ => match r with
      | none => R (.ok .next) s₁
      | some v => wpAny (model prog w) A (letOwnedTupleGo target it v) (fun _ s1' => wpAny (model prog w) A (assign target env v) (fun _ s₂ =>
          wpAny (model prog w) A (eval elt env) (fun x s₄ => wpAny (model prog w) A (call (.builtin "list.append") [acc, x]) (fun _ s₅ => ∃ m, m < n ∧ J m s₅) (fun _ _ => False) s₄) (notedBy (model prog w) A env fun e s' => R (.error e) s') s₂) (fun _ _ => False) s1') (fun _ _ => False) s₁) (fun _ _ => False) s)
    (n : Nat) (h : J n s) : codeAny (model prog w) A (.compLoop (.ListComp elt [⟨target, iter, [], 0⟩] scope pos) 0 it acc env) R s := by
  refine codeAny_loop rfl J (fun n s hJ => ?_) n h
  show wpAny _ A ((compTurn (.ListComp elt [⟨target, iter, [], 0⟩] scope pos) 0 it acc env).onRaise (fun x => do noteFrame x env; theTreesLotGoes x)) _ _ s
  refine wpAny_noted ?_
  rw [compTurn_list]
  refine wpAny_bind (wpAny_standAt (wpAny_bind (wpAny_mono (turn n s hJ) (fun r s₁ h₁ => ?_) fun _ _ z => z.elim)))
  cases r with
  | none => exact wpAny_pure h₁
  | some v =>
    refine wpAny_bind (wpAny_mono h₁ (fun _ s1' h1' => ?_) fun _ _ z => z.elim)
    refine wpAny_bind (wpAny_mono h1' (fun _ s₂ h₂ => ?_) fun _ _ z => z.elim)
    refine wpAny_bind (wpAny_tests_nil ?_)
    refine wpAny_bind (wpAny_bind (wpAny_mono h₂ (fun x s₄ h₄ => ?_) fun _ _ z => z))
    refine wpAny_bind (wpAny_mono h₄ (fun _ s₅ h₅ => ?_) fun _ _ z => z.elim)
    exact wpAny_pure (wpAny_pure ⟨rfl, h₅⟩)
def RX3 (X : Cx) (Γ : Ga) (e : Expr) (C : Addr) : Prop := PX X e fun σ H Q E => ∃ F, Same F H ∧ Sl X.K F Γ σ ∧ ∀ H' F', Pur F H F' H' → E (.ref C) none H'
theorem rx_call {X : Cx} {Γ : Ga} {e : Expr} {es : List Expr} {ds : List D} {pos p : Pos} {C : Addr} {x : Str} {k n : Nat} {ps : List Str} {Cx' : List D → Addr → Prop} (o : OkF X.prog X.w X.K X.mg X.base (CXo X.prog X.w) k x ps (spX X.K n Cx')) (hr : Room k X.A) (hg : Gl X x) (ha : PL3 X.nox Γ (e :: es) ds) (hC : Cx' ds C)
    (hn : ds.length = n := by rfl) (hdb : (x == ("__debug__" : Str)) = false := by decide) (he : starEach (e :: es) X.env = (false, eval e X.env) :: starEach es X.env := by rfl) (hpl : (backTo pos (starEach es X.env)).any (·.1) = false := by rfl) : RX3 X Γ (.Call (.Name x p) (e :: es) [] pos) C := fun pins s σ H Q E I ⟨F, fh, sl, q⟩ =>
  px_fn o hr hg ha hdb he hpl pins s σ H Q E I ⟨F, fh, sl, fun vs H' F' pu il => ⟨ds, C, F', hC, hn, pu.fh, il, fun H2 F2 p2 => q H2 F2 (pu.trans p2)⟩⟩
theorem r_compX {X : Cx} {B : Bs} {Γ : Ga} {Ω : Om} {y : Str} {tpos : Pos} {iter elt : Expr} {sc SX : Scope} {N XN : List Str} {nt : Nat} {caps : List Nat} {pos : Pos} {ds : List D} {pre : Nat → List D} {k : Nat} {C : Addr} {Ex : XK} (hx : PassC X Ex) (h : ∀ F σ H, Sat X.K B Γ Ω F σ H → Ex (.ref C) none H)
    (S : CompOk SX sc XN N nt caps) (hi : I3 X Γ (.Name y tpos) iter ds) (hz : ∀ i, i ≤ k → (pre i).length < sizeLine) (h0 : pre 0 = []) (hk : k < ds.length)
    (step : ∀ (c : CArg) (i : Nat) (d : D), i < k → ds[i]? = some d → ∃ Γ1 e, G3 (X.comp sc N c) (.Name y tpos) (capG nt caps Γ) d Γ1 ∧ Sub (capG nt caps Γ) Γ1 ∧ P3 (X.comp sc N c) Γ1 elt e ∧ pre (i + 1) = pre i ++ [e])
    (bad : ∀ (c : CArg) (d : D), ds[k]? = some d → ∃ Γ1, G3 (X.comp sc N c) (.Name y tpos) (capG nt caps Γ) d Γ1 ∧ RX3 (X.comp sc N c) Γ1 elt C)
    (hc : X.calm = true := by rfl) (hX : X.env.scope = SX := by rfl) (hN : X.N = XN := by rfl) (hs : ∀ x, foldedSetIterable iter X.env x = pure x := by intro _; rfl)
    (hrl : relabel sc X.env = sc := by rfl) (hcp : capsOf sc.names X.env.cells [] = [] := by rfl) (hfr : ∀ x ∈ sc.names, x.2 ≠ .free := by decide +kernel) : R3 X B Γ Ω (.ListComp elt [⟨.Name y tpos, iter, [], 0⟩] sc pos) := fun F0 σ H0 S0 Q pins s I => by
  rw [eval_ListComp]
  refine wpAny_comprehension rfl hs hfr S.kind S.loc (thn (hi pins s σ H0 _ I ⟨F0, S0.fh, S0.sl, fun J H1 F1 p1 wk => (⟨F1, p1, wk⟩ : ∃ F1, Pur F0 H0 F1 H1 ∧ Walk3 X.K F1 J ds)⟩) fun v s1 h1 => thn h1 fun itv s2 h2 => ?_)
  obtain ⟨it, fp, tn, J, H2, rfl, I2, T, st2, f2, F1, p1, wk⟩ := h2
  have lt2 : ∀ b ∈ fp, b < s2.heap.objs.size := fun b hb => by
    obtain ⟨o, e, _⟩ := T.obj _ _ st2 b hb
    exact Heap.lt_size e
  have hD0 : H2 s2.heap.objs.size = none := I2.hok.fresh (Nat.le_refl _)
  have I3 : Inv X pins σ (upd H2 s2.heap.objs.size (.lst [])) { s2 with heap := s2.heap.push { cls := .type "list", dict := none, data := .seq ([] : List Value).toArray } } :=
    I2.laid (t' := s2.toks) (fun b u e => Heap.get?_push_of_some _ e) (Nat.le_refl _) ⟨Nat.zero_le _, [], 0, .nil, Heap.get?_push_size _ rfl⟩
  have f3 : ∀ b ∈ fp, FpOk X pins (upd H2 s2.heap.objs.size (.lst [])) b := fun b hb => ⟨by rw [upd_ne (Nat.ne_of_lt (lt2 b hb))]; exact (f2 b hb).1, (f2 b hb).2⟩
  refine wpAny_newObj_type (wpAny_newFunctionEnv S.nocell (by intro y hy; simp at hy) (fun h1 hn1 hs1 => ?_) S.kind)
  dsimp only at hn1 hs1 ⊢
  generalize hg3 : ({ s2 with heap := s2.heap.push { cls := .type "list", dict := none, data := .seq ([] : List Value).toArray } } : Shared) = s3 at I3
  have e3 : s2.heap.push { cls := .type "list", dict := none, data := .seq ([] : List Value).toArray } = s3.heap := by rw [← hg3]
  rw [e3] at hn1 hs1 ⊢
  have lt3 : ∀ b ∈ fp, b < s3.heap.objs.size := fun b hb => by
    rw [← e3, Heap.size_push]
    exact Nat.lt_succ_of_lt (lt2 b hb)
  have hk3 : ∀ b o, s3.heap.get? b = some o → h1.get? b = some o := fun b o e => hs1.extBut b o (Nat.ne_of_lt (Heap.lt_size e)) (Heap.get?_push_of_some _ e)
  have I4 := I3.enter S hX hN f3 lt3 (t' := s2.toks + ([] : List (Str × Value)).length) hn1 hk3
  have back : ∀ {s' : Shared} {σ' : L2.St} {H' : Hp}, Inv (X.comp sc N ⟨s3.heap.objs.size, s3, upd H2 s2.heap.objs.size (.lst []), fp⟩) pins σ' H' s' → Inv X pins σ H' s' := fun {s' σ' H'} I' => by
    refine I3.call' (ch := fp) I'.os I'.base I'.hok I'.bare fun b hb => ?_
    obtain ⟨g0, g1, g2, g3, g4, g5⟩ := f3 b hb
    exact ⟨g3, g1, g4, g5⟩
  have subc : ∀ x c, (capsOf sc.names X.env.cells []).lookup x = some c → X.env.cells.lookup x = some c := fun x c e => by
    rcases capsOf_sub (S.hf I3 hX) e with q | q
    · cases q
    · exact q
  have stat : ∀ {H' : Hp}, (∀ b ∈ fp, H' b = none) → ∀ b ∈ fp, FpOk (X.comp sc N ⟨s3.heap.objs.size, s3, upd H2 s2.heap.objs.size (.lst []), fp⟩) pins H' b := fun {H'} hn b hb => by
    obtain ⟨g0, g1, g2, g3, g4, g5⟩ := f3 b hb
    refine ⟨hn b hb, Nat.ne_of_lt (lt3 b hb), fun z => ?_, .inl hb, fun x c e => g4 x c (subc x c e), fun p hp => g5 p (List.mem_append_right _ ((List.mem_append.mp hp).elim (fun z => absurd (show p ∈ ([] : List (Addr × Obj)) from z) (by simp)) id))⟩
    rcases List.mem_cons.mp (I3.stkSub b z) with q | q
    · exact g1 q
    · exact g2 q
  have st4 : tn 0 h1 := T.keep _ _ _ st2 fun b hb o e => hk3 b o (by rw [← e3]; exact Heap.get?_push_of_some _ e)
  have fr4 : ∀ b ∈ fp, upd H2 s2.heap.objs.size (.lst []) b = none := fun b hb => (f3 b hb).1
  have hs4 : ({ s2 with heap := h1, toks := s2.toks + ([] : List (Str × Value)).length } : Shared) = { s3 with heap := h1, toks := s2.toks + ([] : List (Str × Value)).length } := by rw [← hg3]
  have henv : ({ compEnvC sc [] s3.heap.objs.size X.env with scope := sc } : Env) = compEnvC sc (capsOf sc.names X.env.cells []) s3.heap.objs.size X.env := by
    unfold compEnvC
    rw [hcp, hrl]
  show codeAny (model X.prog X.w) X.A (.compStart (.ListComp elt [⟨.Name y tpos, iter, [], 0⟩] sc pos) 0 (.ref it) (.ref s2.heap.objs.size) { compEnvC sc [] s3.heap.objs.size X.env with scope := sc }) (fun r s' => ∃ m, s'.heap.Ns s3.heap.objs.size m ∧ ∀ h', Heap.SameBut s3.heap.objs.size s'.heap h' → match r with
    | .ok a => EP X pins σ Q (.ref s2.heap.objs.size) { heap := h', gens := s'.gens, drawn := s'.drawn, toks := s'.toks, os := s'.os }
    | .error x => wpAny (model X.prog X.w) X.A (PySem.passOn "comprehension.variables-let-go" x { compEnvC sc [] s3.heap.objs.size X.env with scope := sc }) (EP X pins σ Q) X.xe { heap := h', gens := s'.gens, drawn := s'.drawn, toks := s'.toks, os := s'.os }) _
  rw [henv, hs4]
  have pu0 : Pur F1 H2 F1 (upd H2 s2.heap.objs.size (.lst [])) := Pur.layOwn p1.fh hD0
  generalize hRR : (fun (r : Result) (s' : Shared) => ∃ m, s'.heap.Ns s3.heap.objs.size m ∧ ∀ h', Heap.SameBut s3.heap.objs.size s'.heap h' → match r with
    | .ok a => EP X pins σ Q (.ref s2.heap.objs.size) { heap := h', gens := s'.gens, drawn := s'.drawn, toks := s'.toks, os := s'.os }
    | .error x => wpAny (model X.prog X.w) X.A (PySem.passOn "comprehension.variables-let-go" x (compEnvC sc (capsOf sc.names X.env.cells []) s3.heap.objs.size X.env)) (EP X pins σ Q) X.xe { heap := h', gens := s'.gens, drawn := s'.drawn, toks := s'.toks, os := s'.os }) = RR
  have keepD : ∀ {F3 H3 F4 H4 : Hp}, Pur F3 H3 F4 H4 → F3 s2.heap.objs.size = none → (∃ o, H3 s2.heap.objs.size = some o) → F4 s2.heap.objs.size = none := fun {F3 H3 F4 H4} pp f3 h3 => by
    cases zz : F4 s2.heap.objs.size with
    | none => rfl
    | some o =>
      rcases pp.new _ (by rw [zz]; simp) with w | w
      · exact absurd f3 w
      · obtain ⟨o', h3⟩ := h3; rw [h3] at w; cases w
  have loop : codeAny (model X.prog X.w) X.A (.compLoop (.ListComp elt [⟨.Name y tpos, iter, [], 0⟩] sc pos) 0 (.ref it) (.ref s2.heap.objs.size) (compEnvC sc (capsOf sc.names X.env.cells []) s3.heap.objs.size X.env)) RR
      { s3 with heap := h1, toks := s2.toks + ([] : List (Str × Value)).length } := by
    refine comp_loopX (fun n s' => ∃ i σ' ys H' F', Inv (X.comp sc N ⟨s3.heap.objs.size, s3, upd H2 s2.heap.objs.size (.lst []), fp⟩) pins σ' H' s' ∧ tn i s'.heap ∧ (∀ b ∈ fp, H' b = none) ∧ i + n = k ∧ Pur F1 H2 F' H' ∧ F' s2.heap.objs.size = none ∧ H' s2.heap.objs.size = some (.lst ys) ∧ IsL X.K F' (pre i) ys ∧ Sl X.K F' (capG nt caps Γ) σ') ?_ k
      ⟨0, _, [], _, F1, I4, st4, fr4, by omega, pu0, p1.fh.free hD0, upd_same, by rw [h0]; exact IsL.nil, Sl.cap (S0.sl.mono p1.ff)⟩
    rintro n s' ⟨i, σ', ys, H', F', I', st', fr', hik, pu, fD, hH, il, sl'⟩
    obtain ⟨d, hd⟩ : ∃ d, ds[i]? = some d := ⟨_, List.getElem?_eq_getElem (by omega)⟩
    obtain ⟨w1, w2⟩ := wk i F' H' pu.ff pu.fh
    obtain ⟨go, yl⟩ := w1 d hd
    refine thn (T.item (X.comp sc N ⟨s3.heap.objs.size, s3, upd H2 s2.heap.objs.size (.lst []), fp⟩) rfl rfl rfl hc i pins s' σ' H' _ I' (stat fr') st' go) fun r s4 ⟨u, hr, h4⟩ => ?_
    subst hr
    refine thn h4 fun _ s5 ⟨x, H5, I5, r5, y5, st5, fr5⟩ => ?_
    have I5' := I5.pinned (stat fr5) (T.obj _ _ st5)
    obtain ⟨F5, p5, i5⟩ := yl x H5 y5
    have fD5 := keepD p5 fD ⟨_, hH⟩
    have hH5 := p5.hh _ _ hH
    have unp : ∀ {s8 : Shared} {σ8 : L2.St} {H8 : Hp}, Inv (X.comp sc N ⟨s3.heap.objs.size, s3, upd H2 s2.heap.objs.size (.lst []), fp⟩) (pins ++ pinsAt fp s5.heap) σ8 H8 s8 → Inv (X.comp sc N ⟨s3.heap.objs.size, s3, upd H2 s2.heap.objs.size (.lst []), fp⟩) pins σ8 H8 s8 ∧ tn (i + 1) s8.heap ∧ ∀ b ∈ fp, H8 b = none := fun {s8 σ8 H8} I8 => by
      refine ⟨I8.unpinned, T.keep _ _ _ st5 fun b hb o e => (I8.pin (b, o) (List.mem_append_right _ (List.mem_append_right _ (mem_pinsAt hb e)))).1, fun b hb => ?_⟩
      obtain ⟨o, e, d⟩ := T.obj _ _ st5 b hb
      exact (I8.pin (b, o) (List.mem_append_right _ (List.mem_append_right _ (mem_pinsAt hb e)))).2.1
    by_cases hlt : i < k
    · obtain ⟨Γ1, e, ⟨g, pg, gq⟩, sub, he, hpre⟩ := step ⟨s3.heap.objs.size, s3, upd H2 s2.heap.objs.size (.lst []), fp⟩ i d hlt hd
      refine thn (pg _ s5 σ' H5 x u (fun σ6 H6 => H6 = H5 ∧ Sl X.K F5 Γ1 σ6) I5' r5 (gq F5 σ' H5 x _ p5.fh i5 (sl'.mono p5.ff) I5.len fun σ3 sl3 _ => ⟨rfl, sl3⟩)) fun _ s6 ⟨σ6, H6, I6, e6, sl6⟩ => ?_
      subst e6
      refine wpAny_mono (he _ s6 σ6 _ (fun v H8 => ∃ F8, Pur F5 H6 F8 H8 ∧ Is X.K F8 e v) I6 ⟨F5, p5.fh, sl6, fun v H8 F8 p8 i8 => ⟨F8, p8, i8⟩⟩) (fun y8 s8 ⟨v, H8, I8, r8, F8, p8, i8⟩ => ?_) fun _ _ z => False.elim z
      have fD8 := keepD p8 fD5 ⟨_, hH5⟩
      have hH8 := p8.hh _ _ hH5
      have P8 := (pu.trans p5).trans p8
      refine thn (mt_append (X := X.comp sc N ⟨s3.heap.objs.size, s3, upd H2 s2.heap.objs.size (.lst []), fp⟩) _ s8 σ6 H8 (.ref s2.heap.objs.size) [v] _ [y8] (fun _ H9 => H9 = upd H8 s2.heap.objs.size (.lst (ys ++ [v]))) I8 rfl (.cons r8 .nil) ⟨_, ys, v, rfl, rfl, hH8, by rw [il.len]; exact hz i (by omega), rfl⟩)
        fun _ s9 ⟨_, H9, I9, _, e9⟩ => ?_
      subst e9
      obtain ⟨u1, u2, u3⟩ := unp I9
      refine ⟨n - 1, by omega, i + 1, σ6, ys ++ [v], _, F8, u1, u2, u3, by omega, ⟨P8.ff, fun b o w => ?_, fun b o w => ?_, P8.new⟩, fD8, upd_same, ?_, (sl6.mono p8.ff).sub sub⟩
      · rw [upd_ne (ne_of_none w fD8)]; exact P8.fh _ _ w
      · rw [upd_ne (ne_of_none w hD0)]; exact P8.hh _ _ w
      · rw [hpre]
        exact (il.mono (p5.ff.trans p8.ff)).append (IsL.cons i8 IsL.nil)
    · have hik' : i = k := by omega
      subst hik'
      obtain ⟨Γ1, ⟨g, pg, gq⟩, he⟩ := bad ⟨s3.heap.objs.size, s3, upd H2 s2.heap.objs.size (.lst []), fp⟩ d hd
      refine thn (pg _ s5 σ' H5 x u (fun σ6 H6 => H6 = H5 ∧ Sl X.K F5 Γ1 σ6) I5' r5 (gq F5 σ' H5 x _ p5.fh i5 (sl'.mono p5.ff) I5.len fun σ3 sl3 _ => ⟨rfl, sl3⟩)) fun _ s6 ⟨σ6, H6, I6, e6, sl6⟩ => ?_
      subst e6
      refine wpAny_mono (he _ s6 σ6 _ (fun _ _ => False) Ex I6 ⟨F5, p5.fh, sl6, fun H8 F8 p8 => h F8 σ H8 (S0.pur (((p1.trans pu).trans p5).trans p8))⟩) (fun y8 s8 ⟨v, H8, I8, r8, z⟩ => z.elim) fun ev s8 ⟨H8, s7, I8, cx⟩ => ?_
      obtain ⟨m, hm, _⟩ := id I8.loc
      have nfr : s3.heap.objs.size ∉ frs X.stack := fun z => by
        obtain ⟨_, o, e, _⟩ := I3.stack.mem z
        exact absurd (Heap.lt_size e) (Nat.lt_irrefl _)
      refine wpAny_mono (hx pins σ H8 s7 ev s8 s3.heap.objs.size m (compEnvC sc (capsOf sc.names X.env.cells []) s3.heap.objs.size X.env) (back (unp I8).1) cx hm I8.free nfr I3.sz rfl) (fun _ s9 ⟨m', q1, q2⟩ => ?_) fun _ _ z => z.elim
      rw [← hRR]
      exact ⟨m', q1, fun h' hs' => q2 h' hs' _⟩
  exact codeAny_compStart_list loop (T.self X.A 0 _ _ _ st4 loop)
end L3
set_option Elab.async false
set_option linter.all false
set_option maxRecDepth 100000
set_option maxHeartbeats 4000000
namespace L3
open PySem PySem.Spec PySem.Calls PyProof.Rows L2
theorem r_make2R {X : Cx} {B : Bs} {Γ : Ga} {Ω : Om} {a b : Expr} {d : D} {pos p : Pos} {x : Str} {k : Nat} {C : Addr} {ps : List Str} {sp : Sp} (o : OkI X.prog X.w X.K X.mg X.base CX0 k x C ps sp) (hr : Room (k + 1) X.A) (hg : Gl X x) (ha : P3 X Γ a d) (hb : R3 X B Γ Ω b) (hdb : (x == ("__debug__" : Str)) = false := by decide)
    (he : starEach [a, b] X.env = (false, eval a X.env) :: starEach [b] X.env := by rfl) (he2 : starEach [b] X.env = (false, eval b X.env) :: starEach [] X.env := by rfl) (hpl : (backTo pos (starEach [b] X.env)).any (·.1) = false := by rfl) : R3 X B Γ Ω (.Call (.Name x p) [a, b] [] pos) := fun F σ H S Q pins s I => by
  obtain ⟨f, fd, FN, M, hm, bd⟩ := o
  exact pe_make (E := fun _ _ _ => False) M FN hr hg hm bd .nil pass0 (pa_cons ha (pa_cons pe_w pa_nil he2) he) hdb he hpl pins s σ H Q I ⟨F, S.fh, S.sl, fun v H' F' pu i => hb F' σ H' (S.pur pu) _⟩
theorem r_make {X : Cx} {B : Bs} {Γ : Ga} {Ω : Om} {e : Expr} {es : List Expr} {ds : List D} {pos p : Pos} {Ex : XK} {C Ck : Addr} {x : Str} {k n : Nat} {ps : List Str} {Cx' : List D → Addr → Prop} (o : OkI X.prog X.w X.K X.mg X.base (CXo X.prog X.w) k x Ck ps (spIX X.K n Ck Cx')) (hx : Passes (CXo X.prog X.w) X Ex) (hr : Room (k + 1) X.A) (hg : Gl X x) (ha : PL3 X Γ (e :: es) ds) (hC : Cx' ds C) (h : ∀ F σ H, Sat X.K B Γ Ω F σ H → Ex (.ref C) none H)
    (hn : ds.length + 1 = n := by rfl) (hdb : (x == ("__debug__" : Str)) = false := by decide) (he : starEach (e :: es) X.env = (false, eval e X.env) :: starEach es X.env := by rfl) (hpl : (backTo pos (starEach es X.env)).any (·.1) = false := by rfl) : R3 X B Γ Ω (.Call (.Name x p) (e :: es) [] pos) := fun F σ H S Q pins s I => by
  obtain ⟨f, fd, FN, M, hm, bd⟩ := o
  refine pe_make M FN hr hg hm bd .nil hx ha hdb he hpl pins s σ H Q I ⟨F, S.fh, S.sl, fun vs H' F' pu il a dx ha' hdx hne => ?_⟩
  have sm : Same H' (upd (upd H' dx (.own a)) a (.ins Ck dx [])) := fun b u e1 => by
    rw [upd_ne (ne_of_none e1 ha'), upd_ne (ne_of_none e1 hdx)]
    exact e1
  rw [List.append_nil]
  refine ⟨a, vs, ds, C, F', dx, rfl, hn, pu.fh.trans sm, pu.fh.free ha', upd_same, il, hC, fun H2 F2 g1 g2 g3 g4 => ?_⟩
  have p2 : Pur F' H' F2 H2 := by
    refine ⟨g1, g2, fun b u e1 => g3 b u (ne_of_none e1 ha') (sm b u e1), fun b e1 => ?_⟩
    rcases g4 b e1 with z | z | z
    · exact .inl z
    · exact .inr (sm.free z)
    · exact .inr (by rw [z]; exact ha')
  exact h F2 σ H2 (S.pur (pu.trans p2))
theorem w_tryOk {X : Cx} {B : Bs} {Γ : Ga} {Ω : Om} {E : E3} {rest : List Stmt} {e : Expr} {d : D} {pos np : Pos} {i : Nat} {nm c : Str} {Cc : Addr} {b₀ : Stmt} {suite : List Stmt} {epos hpos : Pos} (O : Own X) (hc : X.calm = true) (he : P3 X.nox Γ e d) (hg : Gl X c) (hm : X.mg c = some (.ref Cc)) (hN : X.N.Nodup) (hi : X.N[i]? = some nm) (hl : X.env.kindOf nm = some .local)
    (h : W3 X B rest Γ Ω E) (hs : swapsWith e none epos.line X.env = pure false := by rfl) (hd : (c == ("__debug__" : Str)) = false := by decide) :
    W3 X B (.Try [.Expr e epos] [.ExceptHandler (some (.Name c np)) (some nm) (b₀ :: suite) hpos] [] [] pos :: rest) Γ Ω E := fun F σ H S pins s I => by
  have px : PX X e fun σ H Q _ => tP X.K Γ d σ H Q := fun pins s σ H Q E I h => wpAny_mono (he pins s σ H _ (I.wish _) h) (fun u s1 ⟨v, H1, I1, r, q⟩ => ⟨v, H1, I1.unwish, r, q⟩) fun _ _ z => False.elim z
  exact pss_cons (ps_try (i := i) O hc px hg hm hN hi hl (fun ea => pss_w) hs hd) pss_w pins s σ H _ I ⟨F, S.fh, S.sl, fun v H' F' pu i => to_mono pu.ff (h F' σ H' (S.pur pu))⟩
theorem p_intB {X : Cx} {Γ : Ga} {a : Expr} {k : Bool} {p pos : Pos} (hm : X.mg "int" = none) (hg : Gl X "int") (ha : P3 X Γ a (.bl k)) (he : starEach [a] X.env = (false, eval a X.env) :: starEach [] X.env := by rfl) : P3 X Γ (.Call (.Name "int" p) [a] [] pos) (.int (if k then 1 else 0)) :=
  p_callTy call_int1 hg hm bt_int (pl_cons ha pl_nil he) (fun vs H F Q fh i q => by
    obtain ⟨v, rfl, j0⟩ := isL1 i
    simp only [Is] at j0
    subst j0
    exact .inr ⟨k, rfl, q _ _ _ (Pur.refl fh) (i_int F)⟩) (by decide) (by decide) he
end L3
set_option Elab.async false
set_option linter.all false
set_option maxRecDepth 100000
set_option maxHeartbeats 4000000
namespace L3
open PySem PySem.Spec PySem.Calls PyProof.Rows L2 Builtin Builtin.Str
theorem r_tup3R {X : Cx} {B : Bs} {Γ : Ga} {Ω : Om} {a b c : Expr} {d e : D} {x1} {pos : Pos} (ha : P3 X Γ a d) (hb : P3 X Γ b e) (hc : R3 X B Γ Ω c) (h1 : starEach [a, b, c] X.env = (false, eval a X.env) :: starEach [b, c] X.env := by rfl) (h2 : starEach [b, c] X.env = (false, eval b X.env) :: starEach [c] X.env := by rfl) (h3 : starEach [c] X.env = (false, eval c X.env) :: starEach [] X.env := by rfl) : R3 X B Γ Ω (.Tuple [a, b, c] x1 pos) := fun F σ H S Q pins s I =>
  pe_tup (pa_cons ha (pa_cons hb (pa_cons pe_w pa_nil h3) h2) h1) pins s σ H Q I ⟨F, S.fh, S.sl, fun v H1 F1 p1 i1 => ⟨F1, p1.fh, S.sl.mono p1.ff, fun u H2 F2 p2 i2 => hc F2 σ H2 (S.pur (p1.trans p2)) _⟩⟩
def isNumB (x : Str) : Bool := match x.cps.toList with
  | [] => false
  | c :: r => decide (r.length + 1 ≤ 60) && (!decide (c = 48)) && (c :: r).all isDig
def C_isNumB : List D → D → Prop := fun ds d => ∃ x : Str, ds = [.str x] ∧ d = .bl (isNumB x) ∧ x.cps.toList ≠ [] ∧ Txt x
def BadSh (t : Str) : Prop := Txt t ∧ ∃ fs, Txt.split t "/" = fs ∧ (∀ f ∈ fs, Txt f ∧ f.cps.toList ≠ []) ∧ (fs.length ≠ 2 ∨ ∃ a b, fs = [a, b] ∧ (isNumB a = false ∨ isNumB b = false ∨ (a = "2" ∧ b = "4")))
def BadRw (x : Str) : Prop := Txt x ∧ ∃ ws, Txt.split x " " = ws ∧ (∀ f ∈ ws, Txt f) ∧ (ws.length < 3 ∨ 6 < ws.length ∨ ∃ h s b, ws = h :: s :: b ∧ 1 ≤ b.length ∧ b.length ≤ 4 ∧ ((∃ x ∈ h :: b, ¬ IsSym x) ∨ Txt.endswith s ":" = false ∨ ∃ t, s = t ++ ":" ∧ BadSh t))
def BadSt (x : Str) : Prop := Txt x ∧ ∃ ws, Txt.split x " " = ws ∧ (∀ f ∈ ws, Txt f) ∧ (ws.length ≠ 2 ∨ ∃ a b, ws = [a, b] ∧ (a ≠ "start" ∨ ¬ IsSym b))
def NoTx (t : Str) : Prop := ∃ rows : List Str, t = Txt.join "\n" rows ∧ rows ≠ [] ∧ rows.length ≤ 10 ∧ (∀ r ∈ rows, Free 10 r ∧ Txt r) ∧ ((∃ x rest, rows = x :: rest ∧ BadSt x) ∨ ∃ (st : Str) (rs : List Rule) (bad : Str) (rest : List Str), rows = ("start " ++ st) :: (rs.map rowS ++ bad :: rest) ∧ IsSym st ∧ (∀ r ∈ rs, RowOk r) ∧ BadRw bad)
def NoGr (t : Str) : Prop := ∃ (st : Str) (rs : List Rule), t = txtS st rs ∧ IsSym st ∧ (∀ r ∈ rs, RowOk r) ∧ rs.length ≤ 30 ∧ ¬ GoodG st rs
def C_readShareX (A : Addr) : List D → Addr → Prop := fun ds c => c = A ∧ ∃ t, ds = [.str t] ∧ BadSh t
def C_readRuleX (A : Addr) : List D → Addr → Prop := fun ds c => c = A ∧ ∃ t, ds = [.str t] ∧ BadRw t
def C_readStartX (A : Addr) : List D → Addr → Prop := fun ds c => c = A ∧ ∃ t, ds = [.str t] ∧ BadSt t
def C_readX (A3 A5 : Addr) : List D → Addr → Prop := fun ds c => ∃ t, ds = [.str t] ∧ ((c = A5 ∧ NoTx t) ∨ (c = A3 ∧ NoGr t))
def C_kind : List D → D → Prop := fun ds d => ∃ t, ds = [.str t] ∧ ((d = .str "read" ∧ ∃ st rs, t = txtS st rs ∧ IsSym st ∧ GV st rs ∧ ∀ r ∈ rs, RowOk r) ∨ (d = .str "no text" ∧ NoTx t) ∨ (d = .str "no grammar" ∧ NoGr t))
theorem sym_txt {x : Str} (h : IsSym x) : Txt x := ⟨Nat.le_trans h.2.1 (by decide), fun c hc => by
  have := h.2.2 c hc
  unfold isLet at this
  simp at this
  omega⟩
theorem row_tech {r : Rule} (h : RowOk r) : TechR r := by
  refine ⟨sym_txt h.h, Nat.le_trans h.b4 (by decide), fun x hx => sym_txt (h.b x hx), Rat.le_of_lt h.q, ?_, ?_⟩
  · have h0 := My.q_num_pos h.q
    have h1 := h.n
    have : (2 : Nat) ^ 1000 ≥ 10 ^ 60 := by decide +kernel
    have e : ((10 ^ 60 : Nat) : Int) = 10 ^ 60 := by norm_cast
    omega
  · exact Nat.lt_of_lt_of_le h.d (by decide +kernel)
end L3
set_option Elab.async false
set_option linter.all false
set_option maxRecDepth 100000
set_option maxHeartbeats 4000000
namespace L3
open PySem PySem.Spec PySem.Calls PyProof.Rows L2 Builtin Builtin.Str
def od (a : Int) (x : Str) (y : Int) : Int × Str × Int := (a, x, y)
def odP0 (h w n t : Str) : List (Int × Str × Int) := [od 0 ("begin " ++ h) 0, od 0 ("start") 0]
def odP1 (h w n t : Str) : List (Int × Str × Int) := odP0 h w n t ++ [od 0 ("start  " ++ h) 0, od 0 ("start " ++ h ++ " ") 0]
def odP2 (h w n t : Str) : List (Int × Str × Int) := odP1 h w n t ++ [od 0 ("start a1") 0, od 0 ("Start " ++ h) 0]
def odP3 (h w n t : Str) : List (Int × Str × Int) := odP2 h w n t ++ [od 1 (h ++ " " ++ t ++ " " ++ w) 0, od 1 (h ++ "  " ++ (t ++ ": ") ++ w) 0]
def odP4 (h w n t : Str) : List (Int × Str × Int) := odP3 h w n t ++ [od 1 (h ++ " " ++ (t ++ ": ")) 0, od 1 (h ++ " " ++ (t ++ ": ") ++ w ++ " ") 0]
def odP5 (h w n t : Str) : List (Int × Str × Int) := odP4 h w n t ++ [od 1 (h ++ " " ++ (t ++ ": ") ++ " " ++ w) 0, od 1 (h ++ " " ++ (t ++ ": ") ++ "a1") 0]
def odP6 (h w n t : Str) : List (Int × Str × Int) := odP5 h w n t ++ [od 1 ("") 0, od 1 (h ++ " 0" ++ (t ++ ": ") ++ w) 0]
def odP7 (h w n t : Str) : List (Int × Str × Int) := odP6 h w n t ++ [od 1 (h ++ " 0/1: " ++ w) 0, od 1 (h ++ " 2/4: " ++ w) 0]
def odP8 (h w n t : Str) : List (Int × Str × Int) := odP7 h w n t ++ [od 1 (h ++ " 1/" ++ repS "1" 61 ++ ": " ++ w) 0, od 1 (h ++ " -" ++ (t ++ ": ") ++ w) 0]
def odP9 (h w n t : Str) : List (Int × Str × Int) := odP8 h w n t ++ [od 1 (h ++ " +" ++ (t ++ ": ") ++ w) 0, od 1 (h ++ " 1: " ++ w) 0]
def odP10 (h w n t : Str) : List (Int × Str × Int) := odP9 h w n t ++ [od 1 (h ++ " 1/2/3: " ++ w) 0, od 1 (h ++ " " ++ (t ++ ": ") ++ repS (w ++ " ") 4 ++ w) 0]
def odP11 (h w n t : Str) : List (Int × Str × Int) := odP10 h w n t ++ [od 1 (" " ++ h ++ " " ++ (t ++ ": ") ++ w) 0, od 1 (h ++ " 1/1000: " ++ w) 1]
def odP12 (h w n t : Str) : List (Int × Str × Int) := odP11 h w n t ++ [od 0 ("start " ++ n) 1, od 2 ("") 2]
def odP13 (h w n t : Str) : List (Int × Str × Int) := odP12 h w n t ++ [od 2 ("") 3]
def odP14 (h w n t : Str) : List (Int × Str × Int) := odP13 h w n t ++ [od 1 (h ++ " 99/100: " ++ w) 1, od 1 (h ++ " 1_0/11: " ++ w) 0, od 1 ("a1 " ++ (t ++ ": ") ++ w) 0]
def odP15 (h w n t : Str) : List (Int × Str × Int) := odP14 h w n t ++ [od 1 (h ++ " " ++ (t ++ ":") ++ w) 0, od 1 (h ++ " 1/" ++ "0" ++ ": " ++ w) 0]
def odP16 (h w n t : Str) : List (Int × Str × Int) := odP15 h w n t ++ [od 0 ("\nstart " ++ h) 0, od 0 (" start " ++ h) 0, od 2 ("") 4, od 2 ("") 5, od 2 ("") 6]
def oddL (h w n t : Str) : List (Int × Str × Int) := odP16 h w n t
def oddD (e : Int × Str × Int) : D := .tup [.int e.1, .str e.2.1, .int e.2.2]
theorem odl0 {h w n t : Str} : ((odP0 h w n t).map oddD).length = 2 := by
  unfold odP0
  rfl
theorem odl1 {h w n t : Str} : ((odP1 h w n t).map oddD).length = 4 := by
  unfold odP1
  rw [List.map_append, List.length_append, odl0]
  rfl
theorem odl2 {h w n t : Str} : ((odP2 h w n t).map oddD).length = 6 := by
  unfold odP2
  rw [List.map_append, List.length_append, odl1]
  rfl
theorem odl3 {h w n t : Str} : ((odP3 h w n t).map oddD).length = 8 := by
  unfold odP3
  rw [List.map_append, List.length_append, odl2]
  rfl
theorem odl4 {h w n t : Str} : ((odP4 h w n t).map oddD).length = 10 := by
  unfold odP4
  rw [List.map_append, List.length_append, odl3]
  rfl
theorem odl5 {h w n t : Str} : ((odP5 h w n t).map oddD).length = 12 := by
  unfold odP5
  rw [List.map_append, List.length_append, odl4]
  rfl
theorem odl6 {h w n t : Str} : ((odP6 h w n t).map oddD).length = 14 := by
  unfold odP6
  rw [List.map_append, List.length_append, odl5]
  rfl
theorem odl7 {h w n t : Str} : ((odP7 h w n t).map oddD).length = 16 := by
  unfold odP7
  rw [List.map_append, List.length_append, odl6]
  rfl
theorem odl8 {h w n t : Str} : ((odP8 h w n t).map oddD).length = 18 := by
  unfold odP8
  rw [List.map_append, List.length_append, odl7]
  rfl
theorem odl9 {h w n t : Str} : ((odP9 h w n t).map oddD).length = 20 := by
  unfold odP9
  rw [List.map_append, List.length_append, odl8]
  rfl
theorem odl10 {h w n t : Str} : ((odP10 h w n t).map oddD).length = 22 := by
  unfold odP10
  rw [List.map_append, List.length_append, odl9]
  rfl
theorem odl11 {h w n t : Str} : ((odP11 h w n t).map oddD).length = 24 := by
  unfold odP11
  rw [List.map_append, List.length_append, odl10]
  rfl
theorem odl12 {h w n t : Str} : ((odP12 h w n t).map oddD).length = 26 := by
  unfold odP12
  rw [List.map_append, List.length_append, odl11]
  rfl
theorem odl13 {h w n t : Str} : ((odP13 h w n t).map oddD).length = 27 := by
  unfold odP13
  rw [List.map_append, List.length_append, odl12]
  rfl
theorem odl14 {h w n t : Str} : ((odP14 h w n t).map oddD).length = 30 := by
  unfold odP14
  rw [List.map_append, List.length_append, odl13]
  rfl
theorem odl15 {h w n t : Str} : ((odP15 h w n t).map oddD).length = 32 := by
  unfold odP15
  rw [List.map_append, List.length_append, odl14]
  rfl
theorem odl16 {h w n t : Str} : ((odP16 h w n t).map oddD).length = 37 := by
  unfold odP16
  rw [List.map_append, List.length_append, odl15]
  rfl
def C_odd : List D → D → Prop := fun ds d => ∃ (h w n : Str) (q : Rat) (c : Int) (e : Int × Str × Int), ds = [.lst (strsD [h, w, n]), sh q, .int c] ∧ d = oddD e ∧ (oddL h w n (shS q))[(c % 37).toNat]? = some e ∧ IsSym h ∧ IsSym w ∧ IsSym n ∧ 0 < q ∧ q.num < 100 ∧ q.den < 100
theorem slice_two {t : Str} : Txt.slice (t ++ ": ") none (some (-2)) = t := by
  have h2 : (": " : Str).length = 2 := by decide +kernel
  have hl : (t ++ (": " : Str)).length = t.length + 2 := by rw [len_app, h2]
  have h := eq_of_beq (slice_closes_to_neg (x := t ++ ": ") (j := -2) (k := t.length) (by decide) (by omega) (by omega))
  rw [h]
  refine str_ext ?_
  have e : t.cps.toList.length = t.length := Array.length_toList
  simp [Str.cps_append, ← e]
theorem slice_one {t : Str} : Txt.slice (t ++ ": ") none (some (-1)) = t ++ ":" := by
  have e : (t ++ ": " : Str) = (t ++ ":") ++ ⟨#[32]⟩ := by rw [colon_blank, blank_eq, Str.append_assoc]
  rw [e, slice_last]
theorem dig2 {m : Nat} (h : m < 100) : (numS m).length ≤ 2 := by
  have e : (numS m).length = (numS m).cps.toList.length := Array.length_toList.symm
  rw [e, num_cps, List.length_map]
  exact dig_len 1 m h
def Wd (B : Nat) (p : Str) : Prop := p.length ≤ B ∧ ∀ c ∈ p.cps.toList, c < 128 ∧ c ≠ 10 ∧ c ≠ 32
instance {B : Nat} {p : Str} : Decidable (Wd B p) := inferInstanceAs (Decidable (_ ∧ _))
theorem Wd.txt {B : Nat} {p : Str} (h : Wd B p) (hB : B ≤ 100) : Txt p := ⟨Nat.le_trans h.1 hB, fun c hc => (h.2 c hc).1⟩
theorem Wd.f32 {B : Nat} {p : Str} (h : Wd B p) : Free 32 p := fun z => (h.2 _ z).2.2 rfl
theorem Wd.f10 {B : Nat} {p : Str} (h : Wd B p) : Free 10 p := fun z => (h.2 _ z).2.1 rfl
theorem Wd.mono {B C : Nat} {p : Str} (h : Wd B p) (hB : B ≤ C) : Wd C p := ⟨Nat.le_trans h.1 hB, h.2⟩
theorem Wd.app {B C : Nat} {p q : Str} (h : Wd B p) (g : Wd C q) : Wd (B + C) (p ++ q) := ⟨by rw [len_app]; exact Nat.add_le_add h.1 g.1, fun c hc => (mem_app.mp hc).elim (h.2 c) (g.2 c)⟩
theorem wd_sym {x : Str} (h : IsSym x) : Wd 8 x := ⟨h.2.1, fun c hc => by
  have := h.2.2 c hc
  unfold isLet at this
  simp at this
  omega⟩
theorem sh_signs {q : Rat} {c : Nat} (h : c ∈ (shS q).cps.toList) : 47 ≤ c ∧ c ≤ 57 := by
  unfold shS at h
  rcases mem_app.mp h with h | h
  · rcases mem_app.mp h with h | h
    · have := num_dig h; omega
    · rw [slash_eq] at h; simp at h; omega
  · have := num_dig h; omega
theorem sh_len5 {q : Rat} (h0 : 0 < q) (h1 : q.num < 100) (h2 : q.den < 100) : (shS q).length ≤ 5 := by
  have a := dig2 (m := q.num.toNat) (by omega)
  have b := dig2 h2
  unfold shS
  rw [len_app, len_app, show ("/" : Str).length = 1 by decide +kernel]
  omega
theorem wd_sh {q : Rat} (h0 : 0 < q) (h1 : q.num < 100) (h2 : q.den < 100) : Wd 5 (shS q) := ⟨sh_len5 h0 h1 h2, fun c hc => by
  have := sh_signs hc
  omega⟩
theorem join_free {c e : Nat} (hc : c ≠ e) {ps : List Str} (h : ∀ p ∈ ps, Free c p) : Free c (Txt.join ⟨#[e]⟩ ps) := by
  rw [tjoin]
  exact free_join hc h
theorem join_signs {e : Nat} {P : Nat → Prop} (he : P e) : ∀ {ps : List Str}, (∀ p ∈ ps, ∀ c ∈ p.cps.toList, P c) → ∀ c ∈ (Str.join ⟨#[e]⟩ ps).cps.toList, P c
  | [], _, c, hc => by cases hc
  | [p], h, c, hc => h p (by simp) c hc
  | p :: q :: r, h, c, hc => by
    rw [join_two] at hc
    rcases mem_app.mp hc with hc | hc
    · rcases mem_app.mp hc with hc | hc
      · exact h p (by simp) c hc
      · simp at hc
        rw [hc]; exact he
    · exact join_signs he (fun z hz => h z (List.mem_cons_of_mem _ hz)) c hc
theorem row_of {ws : List Str} {x : Str} (e : x = Txt.join ⟨#[32]⟩ ws) (h : ∀ p ∈ ws, ∃ B, B ≤ 100 ∧ Wd B p) (h0 : ws ≠ []) (hl : x.length ≤ 100) : Txt x ∧ Free 10 x ∧ Txt.split x " " = ws ∧ ∀ p ∈ ws, Txt p := by
  subst e
  refine ⟨⟨hl, ?_⟩, join_free (by decide) fun p hp => ?_, by rw [blank_eq]; exact split_join h0 fun p hp => (h p hp).elim fun B q => q.2.f32, fun p hp => (h p hp).elim fun B q => q.2.txt q.1⟩
  · rw [tjoin]
    exact join_signs (by decide) fun p hp c hc => (h p hp).elim fun B q => (q.2.2 c hc).1
  · obtain ⟨B, q⟩ := h p hp
    exact q.2.f10
theorem words_len {B : Nat} {ws : List Str} (h : ∀ p ∈ ws, Wd B p) (hl : ws.length * (B + 1) ≤ 100) : (Txt.join ⟨#[32]⟩ ws).length ≤ 100 := by
  have := join_len (s := ⟨#[32]⟩) (B := B) (ps := ws) fun p hp => (h p hp).1
  rw [show (⟨#[32]⟩ : Str).length = 1 from rfl] at this
  omega
theorem cps_app {x y : Str} : (x ++ y).cps.toList = x.cps.toList ++ y.cps.toList := by rw [Str.cps_append, Array.toList_append]
theorem cps_join1 {c : Nat} {a : Str} : (Txt.join ⟨#[c]⟩ [a]).cps.toList = a.cps.toList := by rw [tjoin]; rfl
theorem cps_join {c : Nat} {a b : Str} {r : List Str} : (Txt.join ⟨#[c]⟩ (a :: b :: r)).cps.toList = a.cps.toList ++ c :: (Txt.join ⟨#[c]⟩ (b :: r)).cps.toList := by
  rw [tjoin, join_two, cps_app, cps_app, ← tjoin]
  simp
end L3
namespace L3
open PySem
theorem rep_lenS {x : Str} {n : Nat} : (repS x n).length = n * x.length := by
  have e : (repS x n).length = (List.replicate n x.cps.toList).flatten.toArray.size := rfl
  have e2 : x.length = x.cps.toList.length := Array.length_toList.symm
  rw [e, List.size_toArray, List.length_flatten, List.map_replicate, List.sum_replicate_nat, e2]
end L3
namespace L3
open PySem L2
theorem w_ga {X : Cx} {B : Bs} {Γ Γ' : Ga} {Ω : Om} {E : E3} {sts : List Stmt} (e : Γ = Γ') (h : W3 X B sts Γ' Ω E) : W3 X B sts Γ Ω E := e ▸ h
end L3
set_option Elab.async false
set_option linter.all false
set_option maxRecDepth 100000
set_option maxHeartbeats 4000000
namespace L3
open PySem PySem.Spec PySem.Calls PyProof.Rows L2
@[irreducible] def P4 (X : Cx) (Γ : Ga) (e : Expr) (d : D) : Prop := P3 X Γ e d
@[irreducible] def L4 (X : Cx) (Γ : Ga) (es : List Expr) (ds : List D) : Prop := PL3 X Γ es ds
@[irreducible] def W4 (X : Cx) (B : Bs) (sts : List Stmt) (Γ : Ga) (Ω : Om) (E : E3) : Prop := W3 X B sts Γ Ω E
section
variable {X : Cx} {B : Bs} {Γ Γ' : Ga} {Ω : Om} {E : E3} {rest sts : List Stmt} {e a b : Expr} {es : List Expr} {d d' : D} {ds fs : List D} {pos pos' : Pos} {x y : Str}
theorem p4_in (h : P3 X Γ e d) : P4 X Γ e d := by unfold P4; exact h
theorem p4_out (h : P4 X Γ e d) : P3 X Γ e d := by unfold P4 at h; exact h
theorem l4_in (h : PL3 X Γ es ds) : L4 X Γ es ds := by unfold L4; exact h
theorem l4_out (h : L4 X Γ es ds) : PL3 X Γ es ds := by unfold L4 at h; exact h
theorem w4_in (h : W3 X B sts Γ Ω E) : W4 X B sts Γ Ω E := by unfold W4; exact h
theorem w4_out (h : W4 X B sts Γ Ω E) : W3 X B sts Γ Ω E := by unfold W4 at h; exact h
theorem w4_set {i : Nat} (hN : X.N.Nodup) (hi : X.N[i]? = some x) (hx : Loc X.env.scope x) (he : P4 X Γ e d) (h : W4 X B rest (Γ.set i (some d)) Ω E) (hs : swapsWith e (some (.Name x pos')) pos.line X.env = pure false := by rfl)
    (hf : X.fn x = true ∨ X.env.scope.names.lookup x = some .local := by first | exact .inl rfl | exact .inr rfl | assumption) : W4 X B (.Assign [.Name x pos'] e pos :: rest) Γ Ω E := w4_in (w_set hN hi hx (p4_out he) (w4_out h) hs hf)
theorem w4_ga (e : Γ = Γ') (h : W4 X B sts Γ' Ω E) : W4 X B sts Γ Ω E := e ▸ h
theorem p4_eq (h : P4 X Γ e d') (q : d' = d) : P4 X Γ e d := q ▸ h
theorem p4_int {i j} : P4 X Γ (.Constant (.int i) j pos) (.int i) := p4_in p_int
theorem p4_str {i j} : P4 X Γ (.Constant (.str i) j pos) (.str i) := p4_in p_str
theorem p4_var {i : Nat} (hN : X.N[i]? = some x) (hv : Vis X.env.scope x) (hΓ : Γ[i]? = some (some d)) (hd : (x == ("__debug__" : Str)) = false := by decide) (hcd : (x == ("__classdict__" : Str)) = false := by decide) : P4 X Γ (.Name x pos) d := p4_in (p_var hN hv hΓ hd hcd)
theorem p4_ixL {i : Int} (ha : P4 X Γ a (.lst ds)) (hb : P4 X Γ b (.int i)) (he : atI ds i = some d) (hs : PlainIx b := by exact fun _ _ => rfl) : P4 X Γ (.Subscript a b pos) d := p4_in (p_ixL (p4_out ha) (p4_out hb) he hs)
theorem p4_catS (ha : P4 X Γ a (.str x)) (hb : P4 X Γ b (.str y)) (hz : x.length + y.length ≤ sizeLine) : P4 X Γ (.BinOp a .Add b pos) (.str (x ++ y)) := p4_in (p_catS (p4_out ha) (p4_out hb) hz)
theorem p4_repS {k : Nat} (ha : P4 X Γ a (.str x)) (hb : P4 X Γ b (.int (k : Int))) (h2 : k ≤ 100) (h4 : x.length ≤ 100) : P4 X Γ (.BinOp a .Mult b pos) (.str (repS x k)) := p4_in (p_repS (p4_out ha) (p4_out hb) h2 h4)
theorem p4_cutS {i : Int} {p2 p3 : Pos} {j} (ha : P4 X Γ a (.str x)) (hz : x.length ≤ sizeLine) : P4 X Γ (.Subscript a (.Slice none (some (.UnaryOp .USub (.Constant (.int i) j p3) pos')) none p2) pos) (.str (Txt.slice x none (some (-i)))) := p4_in (p_sliceS (p4_out ha) o_none (o_some (p_neg p_int)) hz)
theorem p4_cat (ha : P4 X Γ a (.lst ds)) (hb : P4 X Γ b (.lst fs)) (hz : ds.length + fs.length ≤ sizeLine) : P4 X Γ (.BinOp a .Add b pos) (.lst (ds ++ fs)) := p4_in (p_cat (p4_out ha) (p4_out hb) hz)
theorem l4_nil : L4 X Γ [] [] := l4_in pl_nil
theorem l4_cons (ha : P4 X Γ e d) (hr : L4 X Γ es ds) (hs : starEach (e :: es) X.env = (false, eval e X.env) :: starEach es X.env := by rfl) : L4 X Γ (e :: es) (d :: ds) := l4_in (pl_cons (p4_out ha) (l4_out hr) hs)
theorem p4_tup {x1} (h : L4 X Γ es ds) (hz : ds.length ≤ sizeLine := by (simp only [List.length_cons, List.length_nil]; decide)) : P4 X Γ (.Tuple es x1 pos) (.tup ds) := p4_in (p_tup (l4_out h) hz)
theorem p4_lst (h : L4 X Γ es ds) (hz : ds.length ≤ sizeLine := by (simp only [List.length_cons, List.length_nil]; decide)) : P4 X Γ (.List es pos) (.lst ds) := p4_in (p_lst (l4_out h) hz)
end
end L3
set_option Elab.async false
set_option linter.all false
set_option maxRecDepth 100000
set_option maxHeartbeats 4000000
namespace L3
open PySem PySem.Spec PySem.Calls PyProof.Rows L2 Builtin Builtin.Str
theorem cp0 : ("begin " : Str).cps.toList = [98, 101, 103, 105, 110, 32] := by decide +kernel
theorem cp1 : ("start" : Str).cps.toList = [115, 116, 97, 114, 116] := by decide +kernel
theorem cp2 : ("start  " : Str).cps.toList = [115, 116, 97, 114, 116, 32, 32] := by decide +kernel
theorem cp3 : ("start " : Str).cps.toList = [115, 116, 97, 114, 116, 32] := by decide +kernel
theorem cp4 : (" " : Str).cps.toList = [32] := by decide +kernel
theorem cp5 : ("start a1" : Str).cps.toList = [115, 116, 97, 114, 116, 32, 97, 49] := by decide +kernel
theorem cp6 : ("Start " : Str).cps.toList = [83, 116, 97, 114, 116, 32] := by decide +kernel
theorem cp7 : ("  " : Str).cps.toList = [32, 32] := by decide +kernel
theorem cp8 : (": " : Str).cps.toList = [58, 32] := by decide +kernel
theorem cp9 : ("a1" : Str).cps.toList = [97, 49] := by decide +kernel
theorem cp10 : ("" : Str).cps.toList = [] := by decide +kernel
theorem cp11 : (" 0" : Str).cps.toList = [32, 48] := by decide +kernel
theorem cp12 : (" 0/1: " : Str).cps.toList = [32, 48, 47, 49, 58, 32] := by decide +kernel
theorem cp13 : (" 2/4: " : Str).cps.toList = [32, 50, 47, 52, 58, 32] := by decide +kernel
theorem cp14 : (" 1/" : Str).cps.toList = [32, 49, 47] := by decide +kernel
theorem cp15 : (" -" : Str).cps.toList = [32, 45] := by decide +kernel
theorem cp16 : (" +" : Str).cps.toList = [32, 43] := by decide +kernel
theorem cp17 : (" 1: " : Str).cps.toList = [32, 49, 58, 32] := by decide +kernel
theorem cp18 : (" 1/2/3: " : Str).cps.toList = [32, 49, 47, 50, 47, 51, 58, 32] := by decide +kernel
theorem cp19 : (" 1_0/11: " : Str).cps.toList = [32, 49, 95, 48, 47, 49, 49, 58, 32] := by decide +kernel
theorem cp20 : ("a1 " : Str).cps.toList = [97, 49, 32] := by decide +kernel
theorem cp21 : ("0" : Str).cps.toList = [48] := by decide +kernel
theorem cp22 : ("\nstart " : Str).cps.toList = [10, 115, 116, 97, 114, 116, 32] := by decide +kernel
theorem cp23 : (" start " : Str).cps.toList = [32, 115, 116, 97, 114, 116, 32] := by decide +kernel
theorem cp24 : ("begin" : Str).cps.toList = [98, 101, 103, 105, 110] := by decide +kernel
theorem cp25 : ("Start" : Str).cps.toList = [83, 116, 97, 114, 116] := by decide +kernel
theorem cp26 : (":" : Str).cps.toList = [58] := by decide +kernel
theorem cp27 : ("0/1:" : Str).cps.toList = [48, 47, 49, 58] := by decide +kernel
theorem cp28 : ("2/4:" : Str).cps.toList = [50, 47, 52, 58] := by decide +kernel
theorem cp29 : ("1:" : Str).cps.toList = [49, 58] := by decide +kernel
theorem cp30 : ("1/2/3:" : Str).cps.toList = [49, 47, 50, 47, 51, 58] := by decide +kernel
theorem cp31 : ("1_0/11:" : Str).cps.toList = [49, 95, 48, 47, 49, 49, 58] := by decide +kernel
theorem cp32 : ("1/0:" : Str).cps.toList = [49, 47, 48, 58] := by decide +kernel
theorem cp33 : ("-" : Str).cps.toList = [45] := by decide +kernel
theorem cp34 : ("+" : Str).cps.toList = [43] := by decide +kernel
theorem cp35 : ("1/" : Str).cps.toList = [49, 47] := by decide +kernel
theorem cp36 : ("\n" : Str).cps.toList = [10] := by decide +kernel
theorem cpr : (repS "1" 61).cps.toList = List.replicate 61 49 := by decide +kernel
theorem cps_rep {x : Str} {n : Nat} : (repS x n).cps.toList = (List.replicate n x.cps.toList).flatten := rfl
theorem bst {x : Str} (ws : List Str) {B : Nat} (e : x = Txt.join ⟨#[32]⟩ ws) (h : ∀ p ∈ ws, Wd B p) (hl : ws.length * (B + 1) ≤ 100) (h0 : ws ≠ []) (b : ws.length ≠ 2 ∨ ∃ a b, ws = [a, b] ∧ (a ≠ "start" ∨ ¬ IsSym b)) : BadSt x ∧ Free 10 x := by
  have hB : B ≤ 100 := by
    have : 1 ≤ ws.length := List.length_pos_iff.mpr h0
    have := Nat.mul_le_mul_right (B + 1) this
    omega
  obtain ⟨h1, h2, h3, h4⟩ := row_of e (fun p hp => ⟨B, hB, h p hp⟩) h0 (by rw [e]; exact words_len h hl)
  exact ⟨⟨h1, ws, h3, h4, b⟩, h2⟩
theorem brw {x : Str} (ws : List Str) {B : Nat} (e : x = Txt.join ⟨#[32]⟩ ws) (h : ∀ p ∈ ws, Wd B p) (hl : ws.length * (B + 1) ≤ 100) (h0 : ws ≠ []) (b : ws.length < 3 ∨ 6 < ws.length ∨ ∃ h s b, ws = h :: s :: b ∧ 1 ≤ b.length ∧ b.length ≤ 4 ∧ ((∃ x ∈ h :: b, ¬ IsSym x) ∨ Txt.endswith s ":" = false ∨ ∃ t, s = t ++ ":" ∧ BadSh t)) : BadRw x ∧ Free 10 x := by
  have hB : B ≤ 100 := by
    have : 1 ≤ ws.length := List.length_pos_iff.mpr h0
    have := Nat.mul_le_mul_right (B + 1) this
    omega
  obtain ⟨h1, h2, h3, h4⟩ := row_of e (fun p hp => ⟨B, hB, h p hp⟩) h0 (by rw [e]; exact words_len h hl)
  exact ⟨⟨h1, ws, h3, h4, b⟩, h2⟩
theorem ns_a1 : ¬ IsSym "a1" := fun h => absurd (h.2.2 49 (by decide +kernel)) (by decide)
theorem ns_e : ¬ IsSym "" := fun h => absurd h.1 (by decide +kernel)
theorem ends_sh {q : Rat} : Txt.endswith (shS q) ":" = false := by
  obtain ⟨c, rest, e, _⟩ := num_head q.den_pos
  have nz : (numS q.den).cps.toList ≠ [] := by rw [e]; simp
  have el : numS q.den = ⟨((numS q.den).cps.toList.dropLast).toArray⟩ ++ ⟨#[(numS q.den).cps.toList.getLast nz]⟩ := by
    refine str_ext ?_
    rw [cps_app]
    show _ = (numS q.den).cps.toList.dropLast ++ [_]
    exact (List.dropLast_concat_getLast nz).symm
  have hd := num_dig (List.getLast_mem nz)
  generalize (numS q.den).cps.toList.getLast nz = d at el hd
  have key : ∀ d : Nat, d < 58 → 48 ≤ d → Txt.endswith (⟨#[d]⟩ : Str) ":" = false := by decide +kernel
  unfold shS
  rw [el, ← Str.append_assoc, PySem.W.KAf.ends_right (by rw [show (":" : Str).length = 1 by decide +kernel]; exact Nat.le_refl _)]
  exact key d (by omega) hd.1
theorem sh_words {q : Rat} : shS q = Txt.join ⟨#[47]⟩ [numS q.num.toNat, numS q.den] := by
  rw [tjoin, join_two]; unfold shS; rw [slash_eq]; rfl
theorem num_ne {m : Nat} (h : 1 ≤ m) : (numS m).cps.toList ≠ [] := by
  obtain ⟨c, rest, e, _⟩ := num_head h
  rw [e]; simp
theorem num_txt {m : Nat} (h : m < 100) : Txt (numS m) := ⟨Nat.le_trans (dig2 h) (by decide), fun c hc => by have := num_dig hc; omega⟩
theorem bad_pre {q : Rat} {c : Nat} (h0 : 0 < q) (h1 : q.num < 100) (h2 : q.den < 100) (hc : c = 48 ∨ c = 45 ∨ c = 43) : BadSh (⟨#[c]⟩ ++ shS q) := by
  have np := My.q_num_pos h0
  have e : (⟨#[c]⟩ ++ shS q : Str) = Txt.join ⟨#[47]⟩ [⟨#[c]⟩ ++ numS q.num.toNat, numS q.den] := by
    refine str_ext ?_
    rw [cps_app, sh_words, cps_join, cps_join, cps_join1, cps_app, List.append_assoc]
  have tx : Txt (⟨#[c]⟩ ++ numS q.num.toNat : Str) := by
    refine ⟨?_, fun d hd => ?_⟩
    · rw [len_app]; have := dig2 (m := q.num.toNat) (by omega); show 1 + _ ≤ 100; omega
    · rcases mem_app.mp hd with z | z
      · simp at z; omega
      · have := num_dig z; omega
  refine ⟨⟨?_, fun d hd => ?_⟩, _, rfl, ?_⟩
  · rw [len_app]; have := sh_len5 h0 h1 h2; show 1 + _ ≤ 100; omega
  · rcases mem_app.mp hd with z | z
    · simp at z; omega
    · have := sh_signs z; omega
  rw [e, slash_eq, split_join (by simp) fun p hp => ?_]
  · refine ⟨fun f hf => ?_, .inr ⟨_, _, rfl, .inl ?_⟩⟩
    · rcases List.mem_cons.mp hf with rfl | hf
      · exact ⟨tx, by rw [cps_app]; simp⟩
      · rw [List.mem_singleton.mp hf]
        exact ⟨num_txt h2, num_ne q.den_pos⟩
    · unfold isNumB
      rw [cps_app]
      show (decide _ && (!decide (c = 48)) && (isDig c && _)) = false
      rcases hc with rfl | rfl | rfl <;> simp [isDig]
  · rcases List.mem_cons.mp hp with rfl | hp
    · exact free_app (free_one (by omega)) (num_free (by decide))
    · rw [List.mem_singleton.mp hp]; exact num_free (by decide)
theorem bad_lit {t : Str} {fs : List Str} (ht : t.length ≤ 100 ∧ ∀ c ∈ t.cps.toList, c < 128) (e : Txt.split t "/" = fs) (hf : ∀ f ∈ fs, (f.length ≤ 100 ∧ ∀ c ∈ f.cps.toList, c < 128) ∧ f.cps.toList ≠ []) (b : fs.length ≠ 2 ∨ ∃ a b, fs = [a, b] ∧ (isNumB a = false ∨ isNumB b = false ∨ (a = "2" ∧ b = "4"))) : BadSh t := ⟨ht, fs, e, hf, b⟩
structure Sys (h w n : Str) (q p : Rat) : Prop where
  sh : IsSym h
  sw : IsSym w
  sn : IsSym n
  ne : n ≠ h
  q0 : 0 < q
  qn : q.num < 100
  qd : q.den < 100
  p0 : 0 < p
  pn : p.num < 100
  pd : p.den < 100
  one : q + p = 1
section
variable {h w n : Str} {q p : Rat}
def rws (h w n : Str) (q p : Rat) : List Str := [("start " ++ h), rowS (h, [w], q), rowS (h, [h, n], p)]
def OddOk (h w n : Str) (q p : Rat) (e : Int × Str × Int) : Prop :=
  (e.2.2 = 0 ∧ ∃ k : Nat, e.1 = (k : Int) ∧ k ≤ 2 ∧ NoTx (Txt.join "\n" ((rws h w n q p).set k e.2.1))) ∨ (e.2.2 = 1 ∧ ∃ k : Nat, e.1 = (k : Int) ∧ k ≤ 2 ∧ NoGr (Txt.join "\n" ((rws h w n q p).set k e.2.1))) ∨ (e.2.2 = 2 ∧ e.1 = 2) ∨ e.2.2 = 3 ∨ e.2.2 = 4 ∨ e.2.2 = 5 ∨ e.2.2 = 6
theorem row_good {r : Rule} (h1 : IsSym r.1) (h2 : r.2.1.length ≤ 2) (h3 : 1 ≤ r.2.1.length) (h4 : ∀ x ∈ r.2.1, IsSym x) (h5 : 0 < r.2.2) (h6 : r.2.2.num < 100) (h7 : r.2.2.den < 100) : RowOk r ∧ Free 10 (rowS r) ∧ Txt (rowS r) := by
  have wd : ∀ p ∈ r.1 :: (shS r.2.2 ++ ⟨#[58]⟩) :: r.2.1, Wd 8 p := fun p hp => by
    rcases List.mem_cons.mp hp with rfl | hp
    · exact wd_sym h1
    · rcases List.mem_cons.mp hp with rfl | hp
      · exact ((wd_sh h5 h6 h7).app (C := 1) (by decide +kernel)).mono (by decide)
      · exact wd_sym (h4 p hp)
  obtain ⟨a, b, _⟩ := row_of (row_words h3) (fun p hp => ⟨8, by decide, wd p hp⟩) (by simp) (by rw [row_words h3]; exact words_len wd (by simp only [List.length_cons]; omega))
  exact ⟨⟨h1, h3, Nat.le_trans h2 (by decide), h4, h5, Int.lt_trans h6 (by decide), Nat.lt_trans h7 (by decide +kernel)⟩, b, a⟩
theorem Sys.r1 (S : Sys h w n q p) : RowOk (h, [w], q) ∧ Free 10 (rowS (h, [w], q)) ∧ Txt (rowS (h, [w], q)) := row_good S.sh (by simp) (by simp) (fun x hx => by rw [List.mem_singleton.mp hx]; exact S.sw) S.q0 S.qn S.qd
theorem Sys.r2 (S : Sys h w n q p) : RowOk (h, [h, n], p) ∧ Free 10 (rowS (h, [h, n], p)) ∧ Txt (rowS (h, [h, n], p)) := row_good S.sh (by simp) (by simp) (fun x hx => by
  rcases List.mem_cons.mp hx with rfl | hx
  · exact S.sh
  · rw [List.mem_singleton.mp hx]; exact S.sn) S.p0 S.pn S.pd
theorem st_good {x : Str} (h : IsSym x) : Free 10 ("start " ++ x) ∧ Txt ("start " ++ x) := by
  have wd : ∀ p ∈ [("start" : Str), x], Wd 8 p := fun p hp => by
    rcases List.mem_cons.mp hp with rfl | hp
    · decide +kernel
    · rw [List.mem_singleton.mp hp]; exact wd_sym h
  obtain ⟨a, b, _⟩ := row_of (start_words (st := x)) (fun p hp => ⟨8, by decide, wd p hp⟩) (by simp) (by rw [start_words]; exact words_len wd (by simp only [List.length_cons, List.length_nil]; decide))
  exact ⟨b, a⟩
theorem okS (S : Sys h w n q p) {x : Str} (b : BadSt x ∧ Free 10 x) : OddOk h w n q p (od 0 x 0) := .inl ⟨rfl, 0, rfl, by decide, [x, rowS (h, [w], q), rowS (h, [h, n], p)], rfl, by simp, by simp, fun r hr => by
  rcases List.mem_cons.mp hr with rfl | hr
  · exact ⟨b.2, b.1.1⟩
  · rcases List.mem_cons.mp hr with rfl | hr
    · exact S.r1.2
    · rw [List.mem_singleton.mp hr]; exact S.r2.2, .inl ⟨x, _, rfl, b.1⟩⟩
theorem okR (S : Sys h w n q p) {x : Str} (b : BadRw x ∧ Free 10 x) : OddOk h w n q p (od 1 x 0) := .inl ⟨rfl, 1, rfl, by decide, ["start " ++ h, x, rowS (h, [h, n], p)], rfl, by simp, by simp, fun r hr => by
  rcases List.mem_cons.mp hr with rfl | hr
  · exact st_good S.sh
  · rcases List.mem_cons.mp hr with rfl | hr
    · exact ⟨b.2, b.1.1⟩
    · rw [List.mem_singleton.mp hr]; exact S.r2.2, .inr ⟨h, [], x, _, rfl, S.sh, by simp, b.1⟩⟩
theorem zero_eq : ("0" : Str) = ⟨#[48]⟩ := by decide +kernel
theorem minus_eq : ("-" : Str) = ⟨#[45]⟩ := by decide +kernel
theorem plus_eq : ("+" : Str) = ⟨#[43]⟩ := by decide +kernel
theorem wd_c : Wd 1 ":" := by decide +kernel
theorem wd_pre (S : Sys h w n q p) {c : Str} (hc : Wd 1 c) : Wd 12 (c ++ (shS q ++ ":")) := Wd.mono (Wd.app hc (Wd.app (wd_sh S.q0 S.qn S.qd) wd_c)) (by decide)
theorem o0 (S : Sys h w n q p) : OddOk h w n q p (od 0 ("begin " ++ h) 0) := okS S (bst [("begin" : Str), h] (B := 12) (str_ext (by simp only [cps_app, cps_join, cps_join1, cp0, cp1, cp2, cp3, cp4, cp5, cp6, cp7, cp8, cp9, cp10, cp11, cp12, cp13, cp14, cp15, cp16, cp17, cp18, cp19, cp20, cp21, cp22, cp23, cp24, cp25, cp26, cp27, cp28, cp29, cp30, cp31, cp32, cp33, cp34, cp35, cp36, List.append_assoc, List.cons_append, List.nil_append, List.append_nil])) (fun z hz => by
    rcases List.mem_cons.mp hz with rfl | hz
    · exact (by decide +kernel)
    rw [List.mem_singleton.mp hz]; exact (wd_sym S.sh).mono (by decide)) (by simp only [List.length_cons, List.length_nil]; decide) (by simp) (.inr ⟨_, _, rfl, .inl (by decide +kernel)⟩))
theorem o1 (S : Sys h w n q p) : OddOk h w n q p (od 0 ("start") 0) := okS S (bst [("start" : Str)] (B := 12) (str_ext (by simp only [cps_app, cps_join, cps_join1, cp0, cp1, cp2, cp3, cp4, cp5, cp6, cp7, cp8, cp9, cp10, cp11, cp12, cp13, cp14, cp15, cp16, cp17, cp18, cp19, cp20, cp21, cp22, cp23, cp24, cp25, cp26, cp27, cp28, cp29, cp30, cp31, cp32, cp33, cp34, cp35, cp36, List.append_assoc, List.cons_append, List.nil_append, List.append_nil])) (fun z hz => by
    rw [List.mem_singleton.mp hz]; exact (by decide +kernel)) (by simp only [List.length_cons, List.length_nil]; decide) (by simp) (.inl (by simp only [List.length_cons, List.length_nil]; decide)))
theorem o2 (S : Sys h w n q p) : OddOk h w n q p (od 0 ("start  " ++ h) 0) := okS S (bst [("start" : Str), ("" : Str), h] (B := 12) (str_ext (by simp only [cps_app, cps_join, cps_join1, cp0, cp1, cp2, cp3, cp4, cp5, cp6, cp7, cp8, cp9, cp10, cp11, cp12, cp13, cp14, cp15, cp16, cp17, cp18, cp19, cp20, cp21, cp22, cp23, cp24, cp25, cp26, cp27, cp28, cp29, cp30, cp31, cp32, cp33, cp34, cp35, cp36, List.append_assoc, List.cons_append, List.nil_append, List.append_nil])) (fun z hz => by
    rcases List.mem_cons.mp hz with rfl | hz
    · exact (by decide +kernel)
    rcases List.mem_cons.mp hz with rfl | hz
    · exact (by decide +kernel)
    rw [List.mem_singleton.mp hz]; exact (wd_sym S.sh).mono (by decide)) (by simp only [List.length_cons, List.length_nil]; decide) (by simp) (.inl (by simp only [List.length_cons, List.length_nil]; decide)))
theorem o3 (S : Sys h w n q p) : OddOk h w n q p (od 0 ("start " ++ h ++ " ") 0) := okS S (bst [("start" : Str), h, ("" : Str)] (B := 12) (str_ext (by simp only [cps_app, cps_join, cps_join1, cp0, cp1, cp2, cp3, cp4, cp5, cp6, cp7, cp8, cp9, cp10, cp11, cp12, cp13, cp14, cp15, cp16, cp17, cp18, cp19, cp20, cp21, cp22, cp23, cp24, cp25, cp26, cp27, cp28, cp29, cp30, cp31, cp32, cp33, cp34, cp35, cp36, List.append_assoc, List.cons_append, List.nil_append, List.append_nil])) (fun z hz => by
    rcases List.mem_cons.mp hz with rfl | hz
    · exact (by decide +kernel)
    rcases List.mem_cons.mp hz with rfl | hz
    · exact (wd_sym S.sh).mono (by decide)
    rw [List.mem_singleton.mp hz]; exact (by decide +kernel)) (by simp only [List.length_cons, List.length_nil]; decide) (by simp) (.inl (by simp only [List.length_cons, List.length_nil]; decide)))
theorem o4 (S : Sys h w n q p) : OddOk h w n q p (od 0 ("start a1") 0) := okS S (bst [("start" : Str), ("a1" : Str)] (B := 12) (str_ext (by simp only [cps_app, cps_join, cps_join1, cp0, cp1, cp2, cp3, cp4, cp5, cp6, cp7, cp8, cp9, cp10, cp11, cp12, cp13, cp14, cp15, cp16, cp17, cp18, cp19, cp20, cp21, cp22, cp23, cp24, cp25, cp26, cp27, cp28, cp29, cp30, cp31, cp32, cp33, cp34, cp35, cp36, List.append_assoc, List.cons_append, List.nil_append, List.append_nil])) (fun z hz => by
    rcases List.mem_cons.mp hz with rfl | hz
    · exact (by decide +kernel)
    rw [List.mem_singleton.mp hz]; exact (by decide +kernel)) (by simp only [List.length_cons, List.length_nil]; decide) (by simp) (.inr ⟨_, _, rfl, .inr ns_a1⟩))
theorem o5 (S : Sys h w n q p) : OddOk h w n q p (od 0 ("Start " ++ h) 0) := okS S (bst [("Start" : Str), h] (B := 12) (str_ext (by simp only [cps_app, cps_join, cps_join1, cp0, cp1, cp2, cp3, cp4, cp5, cp6, cp7, cp8, cp9, cp10, cp11, cp12, cp13, cp14, cp15, cp16, cp17, cp18, cp19, cp20, cp21, cp22, cp23, cp24, cp25, cp26, cp27, cp28, cp29, cp30, cp31, cp32, cp33, cp34, cp35, cp36, List.append_assoc, List.cons_append, List.nil_append, List.append_nil])) (fun z hz => by
    rcases List.mem_cons.mp hz with rfl | hz
    · exact (by decide +kernel)
    rw [List.mem_singleton.mp hz]; exact (wd_sym S.sh).mono (by decide)) (by simp only [List.length_cons, List.length_nil]; decide) (by simp) (.inr ⟨_, _, rfl, .inl (by decide +kernel)⟩))
theorem o6 (S : Sys h w n q p) : OddOk h w n q p (od 1 (h ++ " " ++ shS q ++ " " ++ w) 0) := okR S (brw [h, shS q, w] (B := 12) (str_ext (by simp only [cps_app, cps_join, cps_join1, cp0, cp1, cp2, cp3, cp4, cp5, cp6, cp7, cp8, cp9, cp10, cp11, cp12, cp13, cp14, cp15, cp16, cp17, cp18, cp19, cp20, cp21, cp22, cp23, cp24, cp25, cp26, cp27, cp28, cp29, cp30, cp31, cp32, cp33, cp34, cp35, cp36, List.append_assoc, List.cons_append, List.nil_append, List.append_nil])) (fun z hz => by
    rcases List.mem_cons.mp hz with rfl | hz
    · exact (wd_sym S.sh).mono (by decide)
    rcases List.mem_cons.mp hz with rfl | hz
    · exact (wd_sh S.q0 S.qn S.qd).mono (by decide)
    rw [List.mem_singleton.mp hz]; exact (wd_sym S.sw).mono (by decide)) (by simp only [List.length_cons, List.length_nil]; decide) (by simp) (.inr (.inr ⟨_, _, _, rfl, by simp, by simp, .inr (.inl ends_sh)⟩)))
theorem o7 (S : Sys h w n q p) : OddOk h w n q p (od 1 (h ++ "  " ++ (shS q ++ ": ") ++ w) 0) := okR S (brw [h, ("" : Str), (shS q ++ ":"), w] (B := 12) (str_ext (by simp only [cps_app, cps_join, cps_join1, cp0, cp1, cp2, cp3, cp4, cp5, cp6, cp7, cp8, cp9, cp10, cp11, cp12, cp13, cp14, cp15, cp16, cp17, cp18, cp19, cp20, cp21, cp22, cp23, cp24, cp25, cp26, cp27, cp28, cp29, cp30, cp31, cp32, cp33, cp34, cp35, cp36, List.append_assoc, List.cons_append, List.nil_append, List.append_nil])) (fun z hz => by
    rcases List.mem_cons.mp hz with rfl | hz
    · exact (wd_sym S.sh).mono (by decide)
    rcases List.mem_cons.mp hz with rfl | hz
    · exact (by decide +kernel)
    rcases List.mem_cons.mp hz with rfl | hz
    · exact ((wd_sh S.q0 S.qn S.qd).app (C := 1) (by decide +kernel)).mono (by decide)
    rw [List.mem_singleton.mp hz]; exact (wd_sym S.sw).mono (by decide)) (by simp only [List.length_cons, List.length_nil]; decide) (by simp) (.inr (.inr ⟨_, _, _, rfl, by simp, by simp, .inr (.inl (by decide +kernel))⟩)))
theorem o8 (S : Sys h w n q p) : OddOk h w n q p (od 1 (h ++ " " ++ (shS q ++ ": ")) 0) := okR S (brw [h, (shS q ++ ":"), ("" : Str)] (B := 12) (str_ext (by simp only [cps_app, cps_join, cps_join1, cp0, cp1, cp2, cp3, cp4, cp5, cp6, cp7, cp8, cp9, cp10, cp11, cp12, cp13, cp14, cp15, cp16, cp17, cp18, cp19, cp20, cp21, cp22, cp23, cp24, cp25, cp26, cp27, cp28, cp29, cp30, cp31, cp32, cp33, cp34, cp35, cp36, List.append_assoc, List.cons_append, List.nil_append, List.append_nil])) (fun z hz => by
    rcases List.mem_cons.mp hz with rfl | hz
    · exact (wd_sym S.sh).mono (by decide)
    rcases List.mem_cons.mp hz with rfl | hz
    · exact ((wd_sh S.q0 S.qn S.qd).app (C := 1) (by decide +kernel)).mono (by decide)
    rw [List.mem_singleton.mp hz]; exact (by decide +kernel)) (by simp only [List.length_cons, List.length_nil]; decide) (by simp) (.inr (.inr ⟨_, _, _, rfl, by simp, by simp, .inl ⟨_, by simp, ns_e⟩⟩)))
theorem o9 (S : Sys h w n q p) : OddOk h w n q p (od 1 (h ++ " " ++ (shS q ++ ": ") ++ w ++ " ") 0) := okR S (brw [h, (shS q ++ ":"), w, ("" : Str)] (B := 12) (str_ext (by simp only [cps_app, cps_join, cps_join1, cp0, cp1, cp2, cp3, cp4, cp5, cp6, cp7, cp8, cp9, cp10, cp11, cp12, cp13, cp14, cp15, cp16, cp17, cp18, cp19, cp20, cp21, cp22, cp23, cp24, cp25, cp26, cp27, cp28, cp29, cp30, cp31, cp32, cp33, cp34, cp35, cp36, List.append_assoc, List.cons_append, List.nil_append, List.append_nil])) (fun z hz => by
    rcases List.mem_cons.mp hz with rfl | hz
    · exact (wd_sym S.sh).mono (by decide)
    rcases List.mem_cons.mp hz with rfl | hz
    · exact ((wd_sh S.q0 S.qn S.qd).app (C := 1) (by decide +kernel)).mono (by decide)
    rcases List.mem_cons.mp hz with rfl | hz
    · exact (wd_sym S.sw).mono (by decide)
    rw [List.mem_singleton.mp hz]; exact (by decide +kernel)) (by simp only [List.length_cons, List.length_nil]; decide) (by simp) (.inr (.inr ⟨_, _, _, rfl, by simp, by simp, .inl ⟨_, by simp, ns_e⟩⟩)))
theorem o10 (S : Sys h w n q p) : OddOk h w n q p (od 1 (h ++ " " ++ (shS q ++ ": ") ++ " " ++ w) 0) := okR S (brw [h, (shS q ++ ":"), ("" : Str), w] (B := 12) (str_ext (by simp only [cps_app, cps_join, cps_join1, cp0, cp1, cp2, cp3, cp4, cp5, cp6, cp7, cp8, cp9, cp10, cp11, cp12, cp13, cp14, cp15, cp16, cp17, cp18, cp19, cp20, cp21, cp22, cp23, cp24, cp25, cp26, cp27, cp28, cp29, cp30, cp31, cp32, cp33, cp34, cp35, cp36, List.append_assoc, List.cons_append, List.nil_append, List.append_nil])) (fun z hz => by
    rcases List.mem_cons.mp hz with rfl | hz
    · exact (wd_sym S.sh).mono (by decide)
    rcases List.mem_cons.mp hz with rfl | hz
    · exact ((wd_sh S.q0 S.qn S.qd).app (C := 1) (by decide +kernel)).mono (by decide)
    rcases List.mem_cons.mp hz with rfl | hz
    · exact (by decide +kernel)
    rw [List.mem_singleton.mp hz]; exact (wd_sym S.sw).mono (by decide)) (by simp only [List.length_cons, List.length_nil]; decide) (by simp) (.inr (.inr ⟨_, _, _, rfl, by simp, by simp, .inl ⟨_, by simp, ns_e⟩⟩)))
theorem o11 (S : Sys h w n q p) : OddOk h w n q p (od 1 (h ++ " " ++ (shS q ++ ": ") ++ "a1") 0) := okR S (brw [h, (shS q ++ ":"), ("a1" : Str)] (B := 12) (str_ext (by simp only [cps_app, cps_join, cps_join1, cp0, cp1, cp2, cp3, cp4, cp5, cp6, cp7, cp8, cp9, cp10, cp11, cp12, cp13, cp14, cp15, cp16, cp17, cp18, cp19, cp20, cp21, cp22, cp23, cp24, cp25, cp26, cp27, cp28, cp29, cp30, cp31, cp32, cp33, cp34, cp35, cp36, List.append_assoc, List.cons_append, List.nil_append, List.append_nil])) (fun z hz => by
    rcases List.mem_cons.mp hz with rfl | hz
    · exact (wd_sym S.sh).mono (by decide)
    rcases List.mem_cons.mp hz with rfl | hz
    · exact ((wd_sh S.q0 S.qn S.qd).app (C := 1) (by decide +kernel)).mono (by decide)
    rw [List.mem_singleton.mp hz]; exact (by decide +kernel)) (by simp only [List.length_cons, List.length_nil]; decide) (by simp) (.inr (.inr ⟨_, _, _, rfl, by simp, by simp, .inl ⟨_, by simp, ns_a1⟩⟩)))
theorem o12 (S : Sys h w n q p) : OddOk h w n q p (od 1 ("") 0) := okR S (brw [("" : Str)] (B := 12) (str_ext (by simp only [cps_app, cps_join, cps_join1, cp0, cp1, cp2, cp3, cp4, cp5, cp6, cp7, cp8, cp9, cp10, cp11, cp12, cp13, cp14, cp15, cp16, cp17, cp18, cp19, cp20, cp21, cp22, cp23, cp24, cp25, cp26, cp27, cp28, cp29, cp30, cp31, cp32, cp33, cp34, cp35, cp36, List.append_assoc, List.cons_append, List.nil_append, List.append_nil])) (fun z hz => by
    rw [List.mem_singleton.mp hz]; exact (by decide +kernel)) (by simp only [List.length_cons, List.length_nil]; decide) (by simp) (.inl (by simp only [List.length_cons, List.length_nil]; decide)))
theorem o13 (S : Sys h w n q p) : OddOk h w n q p (od 1 (h ++ " 0" ++ (shS q ++ ": ") ++ w) 0) := okR S (brw [h, (("0" : Str) ++ (shS q ++ ":")), w] (B := 12) (str_ext (by simp only [cps_app, cps_join, cps_join1, cp0, cp1, cp2, cp3, cp4, cp5, cp6, cp7, cp8, cp9, cp10, cp11, cp12, cp13, cp14, cp15, cp16, cp17, cp18, cp19, cp20, cp21, cp22, cp23, cp24, cp25, cp26, cp27, cp28, cp29, cp30, cp31, cp32, cp33, cp34, cp35, cp36, List.append_assoc, List.cons_append, List.nil_append, List.append_nil])) (fun z hz => by
    rcases List.mem_cons.mp hz with rfl | hz
    · exact (wd_sym S.sh).mono (by decide)
    rcases List.mem_cons.mp hz with rfl | hz
    · exact wd_pre S (show Wd 1 ("0" : Str) by decide +kernel)
    rw [List.mem_singleton.mp hz]; exact (wd_sym S.sw).mono (by decide)) (by simp only [List.length_cons, List.length_nil]; decide) (by simp) (.inr (.inr ⟨_, _, _, rfl, by simp, by simp, .inr (.inr ⟨_, by rw [zero_eq, ← Str.append_assoc], bad_pre S.q0 S.qn S.qd (by decide)⟩)⟩)))
theorem o14 (S : Sys h w n q p) : OddOk h w n q p (od 1 (h ++ " 0/1: " ++ w) 0) := okR S (brw [h, ("0/1:" : Str), w] (B := 12) (str_ext (by simp only [cps_app, cps_join, cps_join1, cp0, cp1, cp2, cp3, cp4, cp5, cp6, cp7, cp8, cp9, cp10, cp11, cp12, cp13, cp14, cp15, cp16, cp17, cp18, cp19, cp20, cp21, cp22, cp23, cp24, cp25, cp26, cp27, cp28, cp29, cp30, cp31, cp32, cp33, cp34, cp35, cp36, List.append_assoc, List.cons_append, List.nil_append, List.append_nil])) (fun z hz => by
    rcases List.mem_cons.mp hz with rfl | hz
    · exact (wd_sym S.sh).mono (by decide)
    rcases List.mem_cons.mp hz with rfl | hz
    · exact (by decide +kernel)
    rw [List.mem_singleton.mp hz]; exact (wd_sym S.sw).mono (by decide)) (by simp only [List.length_cons, List.length_nil]; decide) (by simp) (.inr (.inr ⟨_, _, _, rfl, by simp, by simp, .inr (.inr ⟨"0/1", by decide +kernel, bad_lit (fs := [("0" : Str), ("1" : Str)]) (by decide +kernel) (by decide +kernel) (by decide +kernel) (.inr ⟨_, _, rfl, .inl (by decide +kernel)⟩)⟩)⟩)))
theorem o15 (S : Sys h w n q p) : OddOk h w n q p (od 1 (h ++ " 2/4: " ++ w) 0) := okR S (brw [h, ("2/4:" : Str), w] (B := 12) (str_ext (by simp only [cps_app, cps_join, cps_join1, cp0, cp1, cp2, cp3, cp4, cp5, cp6, cp7, cp8, cp9, cp10, cp11, cp12, cp13, cp14, cp15, cp16, cp17, cp18, cp19, cp20, cp21, cp22, cp23, cp24, cp25, cp26, cp27, cp28, cp29, cp30, cp31, cp32, cp33, cp34, cp35, cp36, List.append_assoc, List.cons_append, List.nil_append, List.append_nil])) (fun z hz => by
    rcases List.mem_cons.mp hz with rfl | hz
    · exact (wd_sym S.sh).mono (by decide)
    rcases List.mem_cons.mp hz with rfl | hz
    · exact (by decide +kernel)
    rw [List.mem_singleton.mp hz]; exact (wd_sym S.sw).mono (by decide)) (by simp only [List.length_cons, List.length_nil]; decide) (by simp) (.inr (.inr ⟨_, _, _, rfl, by simp, by simp, .inr (.inr ⟨"2/4", by decide +kernel, bad_lit (fs := [("2" : Str), ("4" : Str)]) (by decide +kernel) (by decide +kernel) (by decide +kernel) (.inr ⟨_, _, rfl, .inr (.inr ⟨rfl, rfl⟩)⟩)⟩)⟩)))
theorem o17 (S : Sys h w n q p) : OddOk h w n q p (od 1 (h ++ " -" ++ (shS q ++ ": ") ++ w) 0) := okR S (brw [h, (("-" : Str) ++ (shS q ++ ":")), w] (B := 12) (str_ext (by simp only [cps_app, cps_join, cps_join1, cp0, cp1, cp2, cp3, cp4, cp5, cp6, cp7, cp8, cp9, cp10, cp11, cp12, cp13, cp14, cp15, cp16, cp17, cp18, cp19, cp20, cp21, cp22, cp23, cp24, cp25, cp26, cp27, cp28, cp29, cp30, cp31, cp32, cp33, cp34, cp35, cp36, List.append_assoc, List.cons_append, List.nil_append, List.append_nil])) (fun z hz => by
    rcases List.mem_cons.mp hz with rfl | hz
    · exact (wd_sym S.sh).mono (by decide)
    rcases List.mem_cons.mp hz with rfl | hz
    · exact wd_pre S (show Wd 1 ("-" : Str) by decide +kernel)
    rw [List.mem_singleton.mp hz]; exact (wd_sym S.sw).mono (by decide)) (by simp only [List.length_cons, List.length_nil]; decide) (by simp) (.inr (.inr ⟨_, _, _, rfl, by simp, by simp, .inr (.inr ⟨_, by rw [minus_eq, ← Str.append_assoc], bad_pre S.q0 S.qn S.qd (by decide)⟩)⟩)))
theorem o18 (S : Sys h w n q p) : OddOk h w n q p (od 1 (h ++ " +" ++ (shS q ++ ": ") ++ w) 0) := okR S (brw [h, (("+" : Str) ++ (shS q ++ ":")), w] (B := 12) (str_ext (by simp only [cps_app, cps_join, cps_join1, cp0, cp1, cp2, cp3, cp4, cp5, cp6, cp7, cp8, cp9, cp10, cp11, cp12, cp13, cp14, cp15, cp16, cp17, cp18, cp19, cp20, cp21, cp22, cp23, cp24, cp25, cp26, cp27, cp28, cp29, cp30, cp31, cp32, cp33, cp34, cp35, cp36, List.append_assoc, List.cons_append, List.nil_append, List.append_nil])) (fun z hz => by
    rcases List.mem_cons.mp hz with rfl | hz
    · exact (wd_sym S.sh).mono (by decide)
    rcases List.mem_cons.mp hz with rfl | hz
    · exact wd_pre S (show Wd 1 ("+" : Str) by decide +kernel)
    rw [List.mem_singleton.mp hz]; exact (wd_sym S.sw).mono (by decide)) (by simp only [List.length_cons, List.length_nil]; decide) (by simp) (.inr (.inr ⟨_, _, _, rfl, by simp, by simp, .inr (.inr ⟨_, by rw [plus_eq, ← Str.append_assoc], bad_pre S.q0 S.qn S.qd (by decide)⟩)⟩)))
theorem o19 (S : Sys h w n q p) : OddOk h w n q p (od 1 (h ++ " 1: " ++ w) 0) := okR S (brw [h, ("1:" : Str), w] (B := 12) (str_ext (by simp only [cps_app, cps_join, cps_join1, cp0, cp1, cp2, cp3, cp4, cp5, cp6, cp7, cp8, cp9, cp10, cp11, cp12, cp13, cp14, cp15, cp16, cp17, cp18, cp19, cp20, cp21, cp22, cp23, cp24, cp25, cp26, cp27, cp28, cp29, cp30, cp31, cp32, cp33, cp34, cp35, cp36, List.append_assoc, List.cons_append, List.nil_append, List.append_nil])) (fun z hz => by
    rcases List.mem_cons.mp hz with rfl | hz
    · exact (wd_sym S.sh).mono (by decide)
    rcases List.mem_cons.mp hz with rfl | hz
    · exact (by decide +kernel)
    rw [List.mem_singleton.mp hz]; exact (wd_sym S.sw).mono (by decide)) (by simp only [List.length_cons, List.length_nil]; decide) (by simp) (.inr (.inr ⟨_, _, _, rfl, by simp, by simp, .inr (.inr ⟨"1", by decide +kernel, bad_lit (fs := [("1" : Str)]) (by decide +kernel) (by decide +kernel) (by decide +kernel) (.inl (by decide))⟩)⟩)))
theorem o20 (S : Sys h w n q p) : OddOk h w n q p (od 1 (h ++ " 1/2/3: " ++ w) 0) := okR S (brw [h, ("1/2/3:" : Str), w] (B := 12) (str_ext (by simp only [cps_app, cps_join, cps_join1, cp0, cp1, cp2, cp3, cp4, cp5, cp6, cp7, cp8, cp9, cp10, cp11, cp12, cp13, cp14, cp15, cp16, cp17, cp18, cp19, cp20, cp21, cp22, cp23, cp24, cp25, cp26, cp27, cp28, cp29, cp30, cp31, cp32, cp33, cp34, cp35, cp36, List.append_assoc, List.cons_append, List.nil_append, List.append_nil])) (fun z hz => by
    rcases List.mem_cons.mp hz with rfl | hz
    · exact (wd_sym S.sh).mono (by decide)
    rcases List.mem_cons.mp hz with rfl | hz
    · exact (by decide +kernel)
    rw [List.mem_singleton.mp hz]; exact (wd_sym S.sw).mono (by decide)) (by simp only [List.length_cons, List.length_nil]; decide) (by simp) (.inr (.inr ⟨_, _, _, rfl, by simp, by simp, .inr (.inr ⟨"1/2/3", by decide +kernel, bad_lit (fs := [("1" : Str), ("2" : Str), ("3" : Str)]) (by decide +kernel) (by decide +kernel) (by decide +kernel) (.inl (by decide))⟩)⟩)))
theorem o22 (S : Sys h w n q p) : OddOk h w n q p (od 1 (" " ++ h ++ " " ++ (shS q ++ ": ") ++ w) 0) := okR S (brw [("" : Str), h, (shS q ++ ":"), w] (B := 12) (str_ext (by simp only [cps_app, cps_join, cps_join1, cp0, cp1, cp2, cp3, cp4, cp5, cp6, cp7, cp8, cp9, cp10, cp11, cp12, cp13, cp14, cp15, cp16, cp17, cp18, cp19, cp20, cp21, cp22, cp23, cp24, cp25, cp26, cp27, cp28, cp29, cp30, cp31, cp32, cp33, cp34, cp35, cp36, List.append_assoc, List.cons_append, List.nil_append, List.append_nil])) (fun z hz => by
    rcases List.mem_cons.mp hz with rfl | hz
    · exact (by decide +kernel)
    rcases List.mem_cons.mp hz with rfl | hz
    · exact (wd_sym S.sh).mono (by decide)
    rcases List.mem_cons.mp hz with rfl | hz
    · exact ((wd_sh S.q0 S.qn S.qd).app (C := 1) (by decide +kernel)).mono (by decide)
    rw [List.mem_singleton.mp hz]; exact (wd_sym S.sw).mono (by decide)) (by simp only [List.length_cons, List.length_nil]; decide) (by simp) (.inr (.inr ⟨_, _, _, rfl, by simp, by simp, .inl ⟨_, by simp, ns_e⟩⟩)))
theorem o28 (S : Sys h w n q p) : OddOk h w n q p (od 1 (h ++ " 1_0/11: " ++ w) 0) := okR S (brw [h, ("1_0/11:" : Str), w] (B := 12) (str_ext (by simp only [cps_app, cps_join, cps_join1, cp0, cp1, cp2, cp3, cp4, cp5, cp6, cp7, cp8, cp9, cp10, cp11, cp12, cp13, cp14, cp15, cp16, cp17, cp18, cp19, cp20, cp21, cp22, cp23, cp24, cp25, cp26, cp27, cp28, cp29, cp30, cp31, cp32, cp33, cp34, cp35, cp36, List.append_assoc, List.cons_append, List.nil_append, List.append_nil])) (fun z hz => by
    rcases List.mem_cons.mp hz with rfl | hz
    · exact (wd_sym S.sh).mono (by decide)
    rcases List.mem_cons.mp hz with rfl | hz
    · exact (by decide +kernel)
    rw [List.mem_singleton.mp hz]; exact (wd_sym S.sw).mono (by decide)) (by simp only [List.length_cons, List.length_nil]; decide) (by simp) (.inr (.inr ⟨_, _, _, rfl, by simp, by simp, .inr (.inr ⟨"1_0/11", by decide +kernel, bad_lit (fs := [("1_0" : Str), ("11" : Str)]) (by decide +kernel) (by decide +kernel) (by decide +kernel) (.inr ⟨_, _, rfl, .inl (by decide +kernel)⟩)⟩)⟩)))
theorem o29 (S : Sys h w n q p) : OddOk h w n q p (od 1 ("a1 " ++ (shS q ++ ": ") ++ w) 0) := okR S (brw [("a1" : Str), (shS q ++ ":"), w] (B := 12) (str_ext (by simp only [cps_app, cps_join, cps_join1, cp0, cp1, cp2, cp3, cp4, cp5, cp6, cp7, cp8, cp9, cp10, cp11, cp12, cp13, cp14, cp15, cp16, cp17, cp18, cp19, cp20, cp21, cp22, cp23, cp24, cp25, cp26, cp27, cp28, cp29, cp30, cp31, cp32, cp33, cp34, cp35, cp36, List.append_assoc, List.cons_append, List.nil_append, List.append_nil])) (fun z hz => by
    rcases List.mem_cons.mp hz with rfl | hz
    · exact (by decide +kernel)
    rcases List.mem_cons.mp hz with rfl | hz
    · exact ((wd_sh S.q0 S.qn S.qd).app (C := 1) (by decide +kernel)).mono (by decide)
    rw [List.mem_singleton.mp hz]; exact (wd_sym S.sw).mono (by decide)) (by simp only [List.length_cons, List.length_nil]; decide) (by simp) (.inr (.inr ⟨_, _, _, rfl, by simp, by simp, .inl ⟨_, by simp, ns_a1⟩⟩)))
theorem o30 (S : Sys h w n q p) : OddOk h w n q p (od 1 (h ++ " " ++ (shS q ++ ":") ++ w) 0) := okR S (brw [h, (shS q ++ ":" ++ w)] (B := 14) (str_ext (by simp only [cps_app, cps_join, cps_join1, cp0, cp1, cp2, cp3, cp4, cp5, cp6, cp7, cp8, cp9, cp10, cp11, cp12, cp13, cp14, cp15, cp16, cp17, cp18, cp19, cp20, cp21, cp22, cp23, cp24, cp25, cp26, cp27, cp28, cp29, cp30, cp31, cp32, cp33, cp34, cp35, cp36, List.append_assoc, List.cons_append, List.nil_append, List.append_nil])) (fun z hz => by
    rcases List.mem_cons.mp hz with rfl | hz
    · exact (wd_sym S.sh).mono (by decide)
    rw [List.mem_singleton.mp hz]; exact (((wd_sh S.q0 S.qn S.qd).app (C := 1) (by decide +kernel)).app (wd_sym S.sw)).mono (by decide)) (by simp only [List.length_cons, List.length_nil]; decide) (by simp) (.inl (by simp only [List.length_cons, List.length_nil]; decide)))
theorem o31 (S : Sys h w n q p) : OddOk h w n q p (od 1 (h ++ " 1/" ++ "0" ++ ": " ++ w) 0) := okR S (brw [h, ("1/0:" : Str), w] (B := 12) (str_ext (by simp only [cps_app, cps_join, cps_join1, cp0, cp1, cp2, cp3, cp4, cp5, cp6, cp7, cp8, cp9, cp10, cp11, cp12, cp13, cp14, cp15, cp16, cp17, cp18, cp19, cp20, cp21, cp22, cp23, cp24, cp25, cp26, cp27, cp28, cp29, cp30, cp31, cp32, cp33, cp34, cp35, cp36, List.append_assoc, List.cons_append, List.nil_append, List.append_nil])) (fun z hz => by
    rcases List.mem_cons.mp hz with rfl | hz
    · exact (wd_sym S.sh).mono (by decide)
    rcases List.mem_cons.mp hz with rfl | hz
    · exact (by decide +kernel)
    rw [List.mem_singleton.mp hz]; exact (wd_sym S.sw).mono (by decide)) (by simp only [List.length_cons, List.length_nil]; decide) (by simp) (.inr (.inr ⟨_, _, _, rfl, by simp, by simp, .inr (.inr ⟨"1/0", by decide +kernel, bad_lit (fs := [("1" : Str), ("0" : Str)]) (by decide +kernel) (by decide +kernel) (by decide +kernel) (.inr ⟨_, _, rfl, .inr (.inl (by decide +kernel))⟩)⟩)⟩)))
theorem o33 (S : Sys h w n q p) : OddOk h w n q p (od 0 (" start " ++ h) 0) := okS S (bst [("" : Str), ("start" : Str), h] (B := 12) (str_ext (by simp only [cps_app, cps_join, cps_join1, cp0, cp1, cp2, cp3, cp4, cp5, cp6, cp7, cp8, cp9, cp10, cp11, cp12, cp13, cp14, cp15, cp16, cp17, cp18, cp19, cp20, cp21, cp22, cp23, cp24, cp25, cp26, cp27, cp28, cp29, cp30, cp31, cp32, cp33, cp34, cp35, cp36, List.append_assoc, List.cons_append, List.nil_append, List.append_nil])) (fun z hz => by
    rcases List.mem_cons.mp hz with rfl | hz
    · exact (by decide +kernel)
    rcases List.mem_cons.mp hz with rfl | hz
    · exact (by decide +kernel)
    rw [List.mem_singleton.mp hz]; exact (wd_sym S.sh).mono (by decide)) (by simp only [List.length_cons, List.length_nil]; decide) (by simp) (.inl (by simp only [List.length_cons, List.length_nil]; decide)))
end
end L3
set_option Elab.async false
set_option linter.all false
set_option maxRecDepth 100000
set_option maxHeartbeats 4000000
namespace L3
open PySem PySem.Spec PySem.Calls PyProof.Rows L2 Builtin Builtin.Str
section
variable {h w n : Str} {q p : Rat}
theorem o16 (S : Sys h w n q p) : OddOk h w n q p (od 1 (h ++ " 1/" ++ repS "1" 61 ++ ": " ++ w) 0) := okR S (by
  have e : (h ++ " 1/" ++ repS "1" 61 ++ ": " ++ w : Str) = Txt.join ⟨#[32]⟩ [h, (("1/" : Str) ++ repS "1" 61 ++ ":"), w] := str_ext (by simp only [cps_app, cps_join, cps_join1, cp0, cp1, cp2, cp3, cp4, cp5, cp6, cp7, cp8, cp9, cp10, cp11, cp12, cp13, cp14, cp15, cp16, cp17, cp18, cp19, cp20, cp21, cp22, cp23, cp24, cp25, cp26, cp27, cp28, cp29, cp30, cp31, cp32, cp33, cp34, cp35, cp36, List.append_assoc, List.cons_append, List.nil_append, List.append_nil])
  obtain ⟨h1, h2, h3, h4⟩ := row_of e (fun z hz => by
    rcases List.mem_cons.mp hz with rfl | hz
    · exact ⟨8, by decide, wd_sym S.sh⟩
    rcases List.mem_cons.mp hz with rfl | hz
    · exact ⟨64, by decide, by decide +kernel⟩
    rw [List.mem_singleton.mp hz]; exact ⟨8, by decide, wd_sym S.sw⟩) (by simp) (by
    have a := (wd_sym S.sh).1
    have b := (wd_sym S.sw).1
    simp only [len_app, show (" 1/" : Str).length = 3 by decide +kernel, show (": " : Str).length = 2 by decide +kernel, show (repS "1" 61).length = 61 by decide +kernel]
    omega)
  exact ⟨⟨h1, _, h3, h4, .inr (.inr ⟨_, _, _, rfl, by simp, by simp, .inr (.inr ⟨("1/" : Str) ++ repS "1" 61, rfl, bad_lit (fs := ["1", repS "1" 61]) (by decide +kernel) (by decide +kernel) (by decide +kernel) (.inr ⟨_, _, rfl, .inr (.inl (by decide +kernel))⟩)⟩)⟩)⟩, h2⟩)
theorem o21 (S : Sys h w n q p) : OddOk h w n q p (od 1 (h ++ " " ++ (shS q ++ ": ") ++ repS (w ++ " ") 4 ++ w) 0) := okR S (brw [h, (shS q ++ ":"), w, w, w, w, w] (B := 12) (str_ext (by simp only [cps_rep, List.replicate, List.flatten_cons, List.flatten_nil, cps_app, cps_join, cps_join1, cp0, cp1, cp2, cp3, cp4, cp5, cp6, cp7, cp8, cp9, cp10, cp11, cp12, cp13, cp14, cp15, cp16, cp17, cp18, cp19, cp20, cp21, cp22, cp23, cp24, cp25, cp26, cp27, cp28, cp29, cp30, cp31, cp32, cp33, cp34, cp35, cp36, List.append_assoc, List.cons_append, List.nil_append, List.append_nil])) (fun z hz => by
    rcases List.mem_cons.mp hz with rfl | hz
    · exact (wd_sym S.sh).mono (by decide)
    rcases List.mem_cons.mp hz with rfl | hz
    · exact (Wd.app (wd_sh S.q0 S.qn S.qd) wd_c).mono (by decide)
    have : z = w := by simpa using hz
    rw [this]; exact (wd_sym S.sw).mono (by decide)) (by simp only [List.length_cons, List.length_nil]; decide) (by simp) (.inr (.inl (by simp only [List.length_cons, List.length_nil]; decide))))
theorem bst_e : BadSt "" := (bst [""] (B := 12) (by decide +kernel) (fun z hz => by rw [List.mem_singleton.mp hz]; decide +kernel) (by decide) (by simp) (.inl (by decide))).1
theorem brw_e : BadRw "" := (brw [""] (B := 12) (by decide +kernel) (fun z hz => by rw [List.mem_singleton.mp hz]; decide +kernel) (by decide) (by simp) (.inl (by decide))).1
theorem e_good : Free 10 "" ∧ Txt "" := ⟨by show 10 ∉ _; decide +kernel, by decide +kernel, by decide +kernel⟩
theorem o32 (S : Sys h w n q p) : OddOk h w n q p (od 0 ("\nstart " ++ h) 0) := .inl ⟨rfl, 0, rfl, by decide, ["", "start " ++ h, rowS (h, [w], q), rowS (h, [h, n], p)], by
    show Txt.join "\n" ["\nstart " ++ h, rowS (h, [w], q), rowS (h, [h, n], p)] = _
    rw [feed_eq]
    exact str_ext (by simp only [cps_app, cps_join, cps_join1, cp0, cp1, cp2, cp3, cp4, cp5, cp6, cp7, cp8, cp9, cp10, cp11, cp12, cp13, cp14, cp15, cp16, cp17, cp18, cp19, cp20, cp21, cp22, cp23, cp24, cp25, cp26, cp27, cp28, cp29, cp30, cp31, cp32, cp33, cp34, cp35, cp36, List.append_assoc, List.cons_append, List.nil_append, List.append_nil]), by simp, by simp, fun r hr => by
  rcases List.mem_cons.mp hr with rfl | hr
  · exact e_good
  rcases List.mem_cons.mp hr with rfl | hr
  · exact st_good S.sh
  rcases List.mem_cons.mp hr with rfl | hr
  · exact S.r1.2
  rw [List.mem_singleton.mp hr]; exact S.r2.2, .inl ⟨"", _, rfl, bst_e⟩⟩
theorem sum2 {h : Str} {b c : List Str} {x y : Rat} : sumOf h [(h, b, x), (h, c, y)] = x + y := by
  show addIf h (addIf h 0 (h, b, x)) (h, c, y) = _
  unfold addIf
  rw [if_pos rfl, if_pos rfl]
  show 0 + x + y = x + y
  rw [Rat.zero_add]
theorem bad_sum (S : Sys h w n q p) {x : Rat} (hx : x ≠ q) : ¬ GoodG h [(h, [w], x), (h, [h, n], p)] := fun g => by
  have e := g.2.2 h (mem_firsts.mpr (by simp))
  rw [sum2] at e
  have e2 := S.one
  apply hx
  grind
theorem row_lit {x : Rat} {a b : Nat} {s : Str} (ha : x.num.toNat = a) (hb : x.den = b) (e : (" " : Str) ++ numS a ++ "/" ++ numS b ++ ": " = s) : rowS (h, [w], x) = h ++ s ++ w := by
  unfold rowS
  dsimp only
  rw [ha, hb, ← e]
  have : Txt.join " " [w] = w := by rw [tjoin]; rfl
  rw [this]
  simp only [Str.append_assoc]
theorem no_gr (S : Sys h w n q p) {x : Rat} {s : Str} (x0 : 0 < x) (xn : x.num < 1000) (xd : x.den < 10000) (hx : x ≠ q) (e : rowS (h, [w], x) = s) : NoGr (Txt.join "\n" ["start " ++ h, s, rowS (h, [h, n], p)]) := by
  refine ⟨h, [(h, [w], x), (h, [h, n], p)], by rw [← e]; rfl, S.sh, fun r hr => ?_, by simp, bad_sum S hx⟩
  rcases List.mem_cons.mp hr with rfl | hr
  · exact ⟨S.sh, by simp, by simp, fun z hz => by rw [List.mem_singleton.mp hz]; exact S.sw, x0, Int.lt_trans xn (by decide), Nat.lt_trans xd (by decide +kernel)⟩
  · rw [List.mem_singleton.mp hr]; exact S.r2.1
theorem o23 (S : Sys h w n q p) : OddOk h w n q p (od 1 (h ++ " 1/1000: " ++ w) 1) := .inr (.inl ⟨rfl, 1, rfl, by decide, no_gr S (x := Rat.divInt 1 1000) (by decide +kernel) (by decide +kernel) (by decide +kernel) (fun z => absurd S.qd (by rw [← z]; decide +kernel)) (row_lit (a := 1) (b := 1000) (by decide +kernel) (by decide +kernel) (by decide +kernel))⟩)
theorem o27 (S : Sys h w n q p) : OddOk h w n q p (od 1 (h ++ " 99/100: " ++ w) 1) := .inr (.inl ⟨rfl, 1, rfl, by decide, no_gr S (x := Rat.divInt 99 100) (by decide +kernel) (by decide +kernel) (by decide +kernel) (fun z => absurd S.qd (by rw [← z]; decide +kernel)) (row_lit (a := 99) (b := 100) (by decide +kernel) (by decide +kernel) (by decide +kernel))⟩)
theorem Sys.ok (S : Sys h w n q p) : ∀ r ∈ [(h, [w], q), (h, [h, n], p)], RowOk r := fun r hr => by
  rcases List.mem_cons.mp hr with rfl | hr
  · exact S.r1.1
  · rw [List.mem_singleton.mp hr]; exact S.r2.1
theorem o24 (S : Sys h w n q p) : OddOk h w n q p (od 0 ("start " ++ n) 1) := .inr (.inl ⟨rfl, 0, rfl, by decide, n, [(h, [w], q), (h, [h, n], p)], rfl, S.sn, S.ok, by simp, fun g => S.ne (by
  have := mem_firsts.mp g.2.1
  simpa using this)⟩)
theorem same_gr (S : Sys h w n q p) : NoGr (Txt.join "\n" ["start " ++ h, rowS (h, [w], q), rowS (h, [w], q)]) := ⟨h, [(h, [w], q), (h, [w], q)], rfl, S.sh, fun r hr => by
  have : r = (h, [w], q) := by simpa using hr
  rw [this]; exact S.r1.1, by simp, fun g => by
  have := g.1.nd
  simp at this⟩
theorem one_gr (S : Sys h w n q p) : NoGr ("start " ++ h) := ⟨h, [], by unfold txtS; rw [tjoin]; rfl, S.sh, by simp, by simp, fun g => absurd g.1.l1 (by simp)⟩
theorem tail_tx (S : Sys h w n q p) : NoTx (Txt.join "\n" (rws h w n q p) ++ "\n") := ⟨["start " ++ h, rowS (h, [w], q), rowS (h, [h, n], p), ""], by
    unfold rws
    rw [feed_eq]
    exact str_ext (by simp only [cps_app, cps_join, cps_join1, cp0, cp1, cp2, cp3, cp4, cp5, cp6, cp7, cp8, cp9, cp10, cp11, cp12, cp13, cp14, cp15, cp16, cp17, cp18, cp19, cp20, cp21, cp22, cp23, cp24, cp25, cp26, cp27, cp28, cp29, cp30, cp31, cp32, cp33, cp34, cp35, cp36, List.append_assoc, List.cons_append, List.nil_append, List.append_nil]), by simp, by simp, fun r hr => by
  rcases List.mem_cons.mp hr with rfl | hr
  · exact st_good S.sh
  rcases List.mem_cons.mp hr with rfl | hr
  · exact S.r1.2
  rcases List.mem_cons.mp hr with rfl | hr
  · exact S.r2.2
  rw [List.mem_singleton.mp hr]; exact e_good, .inr ⟨h, [(h, [w], q), (h, [h, n], p)], "", [], rfl, S.sh, S.ok, brw_e⟩⟩
theorem none_tx : NoTx "" := ⟨[""], by decide +kernel, by simp, by simp, fun r hr => by rw [List.mem_singleton.mp hr]; exact e_good, .inl ⟨"", [], rfl, bst_e⟩⟩
theorem blank_bad (S : Sys h w n q p) : BadRw (rowS (h, [h, n], p) ++ " ") ∧ Free 10 (rowS (h, [h, n], p) ++ " ") := brw [h, (shS p ++ ⟨#[58]⟩), h, n, ""] (B := 8) (by
    rw [row_words (by simp)]
    exact str_ext (by simp only [cps_app, cps_join, cps_join1, cp0, cp1, cp2, cp3, cp4, cp5, cp6, cp7, cp8, cp9, cp10, cp11, cp12, cp13, cp14, cp15, cp16, cp17, cp18, cp19, cp20, cp21, cp22, cp23, cp24, cp25, cp26, cp27, cp28, cp29, cp30, cp31, cp32, cp33, cp34, cp35, cp36, List.append_assoc, List.cons_append, List.nil_append, List.append_nil])) (fun z hz => by
    rcases List.mem_cons.mp hz with rfl | hz
    · exact wd_sym S.sh
    rcases List.mem_cons.mp hz with rfl | hz
    · exact (Wd.app (C := 1) (wd_sh S.p0 S.pn S.pd) (by decide +kernel)).mono (by decide)
    rcases List.mem_cons.mp hz with rfl | hz
    · exact wd_sym S.sh
    rcases List.mem_cons.mp hz with rfl | hz
    · exact wd_sym S.sn
    rw [List.mem_singleton.mp hz]; decide +kernel) (by simp only [List.length_cons, List.length_nil]; decide) (by simp) (.inr (.inr ⟨_, _, _, rfl, by simp, by simp, .inl ⟨"", by simp, ns_e⟩⟩))
theorem blank_tx (S : Sys h w n q p) : NoTx (Txt.join "\n" (rws h w n q p) ++ " ") := ⟨["start " ++ h, rowS (h, [w], q), rowS (h, [h, n], p) ++ " "], by
    unfold rws
    rw [feed_eq]
    exact str_ext (by simp only [cps_app, cps_join, cps_join1, cp0, cp1, cp2, cp3, cp4, cp5, cp6, cp7, cp8, cp9, cp10, cp11, cp12, cp13, cp14, cp15, cp16, cp17, cp18, cp19, cp20, cp21, cp22, cp23, cp24, cp25, cp26, cp27, cp28, cp29, cp30, cp31, cp32, cp33, cp34, cp35, cp36, List.append_assoc, List.cons_append, List.nil_append, List.append_nil]), by simp, by simp, fun r hr => by
  rcases List.mem_cons.mp hr with rfl | hr
  · exact st_good S.sh
  rcases List.mem_cons.mp hr with rfl | hr
  · exact S.r1.2
  rw [List.mem_singleton.mp hr]; exact ⟨(blank_bad S).2, (blank_bad S).1.1⟩, .inr ⟨h, [(h, [w], q)], _, [], rfl, S.sh, fun r hr => by rw [List.mem_singleton.mp hr]; exact S.r1.1, (blank_bad S).1⟩⟩
theorem Sys.gv (S : Sys h w n q p) : GV h [(h, [w], q), (h, [h, n], p)] where
  l1 := by simp
  l2 := by simp
  ok := fun r hr => let o := S.ok r hr; ⟨o.h, o.b0, o.b4, o.b, o.q⟩
  nd := by simp
  st := mem_firsts.mpr (by simp)
  one := fun g hg => by
    have : g = h := by simpa using mem_firsts.mp hg
    rw [this, sum2]; exact S.one
  sz := fun r hr => (row_tech (S.ok r hr)).s
theorem odk0 (S : Sys h w n q p) : ∀ e ∈ odP0 h w n (shS q), OddOk h w n q p e := fun e he => by
  unfold odP0 at he
  rcases List.mem_cons.mp he with rfl | he
  · exact o0 S
  rw [List.mem_singleton.mp he]; exact o1 S
theorem odk1 (S : Sys h w n q p) : ∀ e ∈ odP1 h w n (shS q), OddOk h w n q p e := fun e he => by
  unfold odP1 at he
  rcases List.mem_append.mp he with he | he
  · exact odk0 S e he
  rcases List.mem_cons.mp he with rfl | he
  · exact o2 S
  rw [List.mem_singleton.mp he]; exact o3 S
theorem odk2 (S : Sys h w n q p) : ∀ e ∈ odP2 h w n (shS q), OddOk h w n q p e := fun e he => by
  unfold odP2 at he
  rcases List.mem_append.mp he with he | he
  · exact odk1 S e he
  rcases List.mem_cons.mp he with rfl | he
  · exact o4 S
  rw [List.mem_singleton.mp he]; exact o5 S
theorem odk3 (S : Sys h w n q p) : ∀ e ∈ odP3 h w n (shS q), OddOk h w n q p e := fun e he => by
  unfold odP3 at he
  rcases List.mem_append.mp he with he | he
  · exact odk2 S e he
  rcases List.mem_cons.mp he with rfl | he
  · exact o6 S
  rw [List.mem_singleton.mp he]; exact o7 S
theorem odk4 (S : Sys h w n q p) : ∀ e ∈ odP4 h w n (shS q), OddOk h w n q p e := fun e he => by
  unfold odP4 at he
  rcases List.mem_append.mp he with he | he
  · exact odk3 S e he
  rcases List.mem_cons.mp he with rfl | he
  · exact o8 S
  rw [List.mem_singleton.mp he]; exact o9 S
theorem odk5 (S : Sys h w n q p) : ∀ e ∈ odP5 h w n (shS q), OddOk h w n q p e := fun e he => by
  unfold odP5 at he
  rcases List.mem_append.mp he with he | he
  · exact odk4 S e he
  rcases List.mem_cons.mp he with rfl | he
  · exact o10 S
  rw [List.mem_singleton.mp he]; exact o11 S
theorem odk6 (S : Sys h w n q p) : ∀ e ∈ odP6 h w n (shS q), OddOk h w n q p e := fun e he => by
  unfold odP6 at he
  rcases List.mem_append.mp he with he | he
  · exact odk5 S e he
  rcases List.mem_cons.mp he with rfl | he
  · exact o12 S
  rw [List.mem_singleton.mp he]; exact o13 S
theorem odk7 (S : Sys h w n q p) : ∀ e ∈ odP7 h w n (shS q), OddOk h w n q p e := fun e he => by
  unfold odP7 at he
  rcases List.mem_append.mp he with he | he
  · exact odk6 S e he
  rcases List.mem_cons.mp he with rfl | he
  · exact o14 S
  rw [List.mem_singleton.mp he]; exact o15 S
theorem odk8 (S : Sys h w n q p) : ∀ e ∈ odP8 h w n (shS q), OddOk h w n q p e := fun e he => by
  unfold odP8 at he
  rcases List.mem_append.mp he with he | he
  · exact odk7 S e he
  rcases List.mem_cons.mp he with rfl | he
  · exact o16 S
  rw [List.mem_singleton.mp he]; exact o17 S
theorem odk9 (S : Sys h w n q p) : ∀ e ∈ odP9 h w n (shS q), OddOk h w n q p e := fun e he => by
  unfold odP9 at he
  rcases List.mem_append.mp he with he | he
  · exact odk8 S e he
  rcases List.mem_cons.mp he with rfl | he
  · exact o18 S
  rw [List.mem_singleton.mp he]; exact o19 S
theorem odk10 (S : Sys h w n q p) : ∀ e ∈ odP10 h w n (shS q), OddOk h w n q p e := fun e he => by
  unfold odP10 at he
  rcases List.mem_append.mp he with he | he
  · exact odk9 S e he
  rcases List.mem_cons.mp he with rfl | he
  · exact o20 S
  rw [List.mem_singleton.mp he]; exact o21 S
theorem odk11 (S : Sys h w n q p) : ∀ e ∈ odP11 h w n (shS q), OddOk h w n q p e := fun e he => by
  unfold odP11 at he
  rcases List.mem_append.mp he with he | he
  · exact odk10 S e he
  rcases List.mem_cons.mp he with rfl | he
  · exact o22 S
  rw [List.mem_singleton.mp he]; exact o23 S
theorem odk12 (S : Sys h w n q p) : ∀ e ∈ odP12 h w n (shS q), OddOk h w n q p e := fun e he => by
  unfold odP12 at he
  rcases List.mem_append.mp he with he | he
  · exact odk11 S e he
  rcases List.mem_cons.mp he with rfl | he
  · exact o24 S
  rw [List.mem_singleton.mp he]; exact .inr (.inr (.inl ⟨rfl, rfl⟩))
theorem odk13 (S : Sys h w n q p) : ∀ e ∈ odP13 h w n (shS q), OddOk h w n q p e := fun e he => by
  unfold odP13 at he
  rcases List.mem_append.mp he with he | he
  · exact odk12 S e he
  rw [List.mem_singleton.mp he]; exact .inr (.inr (.inr (.inl rfl)))
theorem odk14 (S : Sys h w n q p) : ∀ e ∈ odP14 h w n (shS q), OddOk h w n q p e := fun e he => by
  unfold odP14 at he
  rcases List.mem_append.mp he with he | he
  · exact odk13 S e he
  rcases List.mem_cons.mp he with rfl | he
  · exact o27 S
  rcases List.mem_cons.mp he with rfl | he
  · exact o28 S
  rw [List.mem_singleton.mp he]; exact o29 S
theorem odk15 (S : Sys h w n q p) : ∀ e ∈ odP15 h w n (shS q), OddOk h w n q p e := fun e he => by
  unfold odP15 at he
  rcases List.mem_append.mp he with he | he
  · exact odk14 S e he
  rcases List.mem_cons.mp he with rfl | he
  · exact o30 S
  rw [List.mem_singleton.mp he]; exact o31 S
theorem odk16 (S : Sys h w n q p) : ∀ e ∈ odP16 h w n (shS q), OddOk h w n q p e := fun e he => by
  unfold odP16 at he
  rcases List.mem_append.mp he with he | he
  · exact odk15 S e he
  rcases List.mem_cons.mp he with rfl | he
  · exact o32 S
  rcases List.mem_cons.mp he with rfl | he
  · exact o33 S
  rcases List.mem_cons.mp he with rfl | he
  · exact .inr (.inr (.inr (.inr (.inl rfl))))
  rcases List.mem_cons.mp he with rfl | he
  · exact .inr (.inr (.inr (.inr (.inr (.inl rfl)))))
  rw [List.mem_singleton.mp he]; exact .inr (.inr (.inr (.inr (.inr (.inr rfl)))))
theorem lq0 : ("begin " : Str).length = 6 := by decide +kernel
theorem lq1 : ("start" : Str).length = 5 := by decide +kernel
theorem lq2 : ("start  " : Str).length = 7 := by decide +kernel
theorem lq3 : ("start " : Str).length = 6 := by decide +kernel
theorem lq4 : (" " : Str).length = 1 := by decide +kernel
theorem lq5 : ("start a1" : Str).length = 8 := by decide +kernel
theorem lq6 : ("Start " : Str).length = 6 := by decide +kernel
theorem lq7 : ("  " : Str).length = 2 := by decide +kernel
theorem lq8 : (": " : Str).length = 2 := by decide +kernel
theorem lq9 : ("a1" : Str).length = 2 := by decide +kernel
theorem lq10 : ("" : Str).length = 0 := by decide +kernel
theorem lq11 : (" 0" : Str).length = 2 := by decide +kernel
theorem lq12 : (" 0/1: " : Str).length = 6 := by decide +kernel
theorem lq13 : (" 2/4: " : Str).length = 6 := by decide +kernel
theorem lq14 : (" 1/" : Str).length = 3 := by decide +kernel
theorem lq15 : (" -" : Str).length = 2 := by decide +kernel
theorem lq16 : (" +" : Str).length = 2 := by decide +kernel
theorem lq17 : (" 1: " : Str).length = 4 := by decide +kernel
theorem lq18 : (" 1/2/3: " : Str).length = 8 := by decide +kernel
theorem lq19 : (" 1_0/11: " : Str).length = 9 := by decide +kernel
theorem lq20 : ("a1 " : Str).length = 3 := by decide +kernel
theorem lq21 : ("0" : Str).length = 1 := by decide +kernel
theorem lq22 : ("\nstart " : Str).length = 7 := by decide +kernel
theorem lq23 : (" start " : Str).length = 7 := by decide +kernel
theorem lq24 : (":" : Str).length = 1 := by decide +kernel
theorem lq25 : (" 1/1000: " : Str).length = 9 := by decide +kernel
theorem lq26 : (" 99/100: " : Str).length = 9 := by decide +kernel
theorem lq27 : ("1" : Str).length = 1 := by decide +kernel
theorem lqr : (repS "1" 61).length = 61 := by decide +kernel
theorem odq0 {t : Str} (lh : h.length ≤ 8) (lw : w.length ≤ 8) (ln : n.length ≤ 8) (lt : t.length ≤ 5) : ∀ e ∈ odP0 h w n t, e.2.1.length ≤ 100 := fun e he => by
  unfold odP0 at he
  rcases List.mem_cons.mp he with rfl | he
  · simp only [od, len_app, rep_lenS, lq0, lq1, lq2, lq3, lq4, lq5, lq6, lq7, lq8, lq9, lq10, lq11, lq12, lq13, lq14, lq15, lq16, lq17, lq18, lq19, lq20, lq21, lq22, lq23, lq24, lq25, lq26, lq27]; omega
  rw [List.mem_singleton.mp he]; simp only [od, len_app, rep_lenS, lq0, lq1, lq2, lq3, lq4, lq5, lq6, lq7, lq8, lq9, lq10, lq11, lq12, lq13, lq14, lq15, lq16, lq17, lq18, lq19, lq20, lq21, lq22, lq23, lq24, lq25, lq26, lq27]; omega
theorem odq1 {t : Str} (lh : h.length ≤ 8) (lw : w.length ≤ 8) (ln : n.length ≤ 8) (lt : t.length ≤ 5) : ∀ e ∈ odP1 h w n t, e.2.1.length ≤ 100 := fun e he => by
  unfold odP1 at he
  rcases List.mem_append.mp he with he | he
  · exact odq0 lh lw ln lt e he
  rcases List.mem_cons.mp he with rfl | he
  · simp only [od, len_app, rep_lenS, lq0, lq1, lq2, lq3, lq4, lq5, lq6, lq7, lq8, lq9, lq10, lq11, lq12, lq13, lq14, lq15, lq16, lq17, lq18, lq19, lq20, lq21, lq22, lq23, lq24, lq25, lq26, lq27]; omega
  rw [List.mem_singleton.mp he]; simp only [od, len_app, rep_lenS, lq0, lq1, lq2, lq3, lq4, lq5, lq6, lq7, lq8, lq9, lq10, lq11, lq12, lq13, lq14, lq15, lq16, lq17, lq18, lq19, lq20, lq21, lq22, lq23, lq24, lq25, lq26, lq27]; omega
theorem odq2 {t : Str} (lh : h.length ≤ 8) (lw : w.length ≤ 8) (ln : n.length ≤ 8) (lt : t.length ≤ 5) : ∀ e ∈ odP2 h w n t, e.2.1.length ≤ 100 := fun e he => by
  unfold odP2 at he
  rcases List.mem_append.mp he with he | he
  · exact odq1 lh lw ln lt e he
  rcases List.mem_cons.mp he with rfl | he
  · simp only [od, len_app, rep_lenS, lq0, lq1, lq2, lq3, lq4, lq5, lq6, lq7, lq8, lq9, lq10, lq11, lq12, lq13, lq14, lq15, lq16, lq17, lq18, lq19, lq20, lq21, lq22, lq23, lq24, lq25, lq26, lq27]; omega
  rw [List.mem_singleton.mp he]; simp only [od, len_app, rep_lenS, lq0, lq1, lq2, lq3, lq4, lq5, lq6, lq7, lq8, lq9, lq10, lq11, lq12, lq13, lq14, lq15, lq16, lq17, lq18, lq19, lq20, lq21, lq22, lq23, lq24, lq25, lq26, lq27]; omega
theorem odq3 {t : Str} (lh : h.length ≤ 8) (lw : w.length ≤ 8) (ln : n.length ≤ 8) (lt : t.length ≤ 5) : ∀ e ∈ odP3 h w n t, e.2.1.length ≤ 100 := fun e he => by
  unfold odP3 at he
  rcases List.mem_append.mp he with he | he
  · exact odq2 lh lw ln lt e he
  rcases List.mem_cons.mp he with rfl | he
  · simp only [od, len_app, rep_lenS, lq0, lq1, lq2, lq3, lq4, lq5, lq6, lq7, lq8, lq9, lq10, lq11, lq12, lq13, lq14, lq15, lq16, lq17, lq18, lq19, lq20, lq21, lq22, lq23, lq24, lq25, lq26, lq27]; omega
  rw [List.mem_singleton.mp he]; simp only [od, len_app, rep_lenS, lq0, lq1, lq2, lq3, lq4, lq5, lq6, lq7, lq8, lq9, lq10, lq11, lq12, lq13, lq14, lq15, lq16, lq17, lq18, lq19, lq20, lq21, lq22, lq23, lq24, lq25, lq26, lq27]; omega
theorem odq4 {t : Str} (lh : h.length ≤ 8) (lw : w.length ≤ 8) (ln : n.length ≤ 8) (lt : t.length ≤ 5) : ∀ e ∈ odP4 h w n t, e.2.1.length ≤ 100 := fun e he => by
  unfold odP4 at he
  rcases List.mem_append.mp he with he | he
  · exact odq3 lh lw ln lt e he
  rcases List.mem_cons.mp he with rfl | he
  · simp only [od, len_app, rep_lenS, lq0, lq1, lq2, lq3, lq4, lq5, lq6, lq7, lq8, lq9, lq10, lq11, lq12, lq13, lq14, lq15, lq16, lq17, lq18, lq19, lq20, lq21, lq22, lq23, lq24, lq25, lq26, lq27]; omega
  rw [List.mem_singleton.mp he]; simp only [od, len_app, rep_lenS, lq0, lq1, lq2, lq3, lq4, lq5, lq6, lq7, lq8, lq9, lq10, lq11, lq12, lq13, lq14, lq15, lq16, lq17, lq18, lq19, lq20, lq21, lq22, lq23, lq24, lq25, lq26, lq27]; omega
theorem odq5 {t : Str} (lh : h.length ≤ 8) (lw : w.length ≤ 8) (ln : n.length ≤ 8) (lt : t.length ≤ 5) : ∀ e ∈ odP5 h w n t, e.2.1.length ≤ 100 := fun e he => by
  unfold odP5 at he
  rcases List.mem_append.mp he with he | he
  · exact odq4 lh lw ln lt e he
  rcases List.mem_cons.mp he with rfl | he
  · simp only [od, len_app, rep_lenS, lq0, lq1, lq2, lq3, lq4, lq5, lq6, lq7, lq8, lq9, lq10, lq11, lq12, lq13, lq14, lq15, lq16, lq17, lq18, lq19, lq20, lq21, lq22, lq23, lq24, lq25, lq26, lq27]; omega
  rw [List.mem_singleton.mp he]; simp only [od, len_app, rep_lenS, lq0, lq1, lq2, lq3, lq4, lq5, lq6, lq7, lq8, lq9, lq10, lq11, lq12, lq13, lq14, lq15, lq16, lq17, lq18, lq19, lq20, lq21, lq22, lq23, lq24, lq25, lq26, lq27]; omega
theorem odq6 {t : Str} (lh : h.length ≤ 8) (lw : w.length ≤ 8) (ln : n.length ≤ 8) (lt : t.length ≤ 5) : ∀ e ∈ odP6 h w n t, e.2.1.length ≤ 100 := fun e he => by
  unfold odP6 at he
  rcases List.mem_append.mp he with he | he
  · exact odq5 lh lw ln lt e he
  rcases List.mem_cons.mp he with rfl | he
  · simp only [od, len_app, rep_lenS, lq0, lq1, lq2, lq3, lq4, lq5, lq6, lq7, lq8, lq9, lq10, lq11, lq12, lq13, lq14, lq15, lq16, lq17, lq18, lq19, lq20, lq21, lq22, lq23, lq24, lq25, lq26, lq27]; omega
  rw [List.mem_singleton.mp he]; simp only [od, len_app, rep_lenS, lq0, lq1, lq2, lq3, lq4, lq5, lq6, lq7, lq8, lq9, lq10, lq11, lq12, lq13, lq14, lq15, lq16, lq17, lq18, lq19, lq20, lq21, lq22, lq23, lq24, lq25, lq26, lq27]; omega
theorem odq7 {t : Str} (lh : h.length ≤ 8) (lw : w.length ≤ 8) (ln : n.length ≤ 8) (lt : t.length ≤ 5) : ∀ e ∈ odP7 h w n t, e.2.1.length ≤ 100 := fun e he => by
  unfold odP7 at he
  rcases List.mem_append.mp he with he | he
  · exact odq6 lh lw ln lt e he
  rcases List.mem_cons.mp he with rfl | he
  · simp only [od, len_app, rep_lenS, lq0, lq1, lq2, lq3, lq4, lq5, lq6, lq7, lq8, lq9, lq10, lq11, lq12, lq13, lq14, lq15, lq16, lq17, lq18, lq19, lq20, lq21, lq22, lq23, lq24, lq25, lq26, lq27]; omega
  rw [List.mem_singleton.mp he]; simp only [od, len_app, rep_lenS, lq0, lq1, lq2, lq3, lq4, lq5, lq6, lq7, lq8, lq9, lq10, lq11, lq12, lq13, lq14, lq15, lq16, lq17, lq18, lq19, lq20, lq21, lq22, lq23, lq24, lq25, lq26, lq27]; omega
theorem odq8 {t : Str} (lh : h.length ≤ 8) (lw : w.length ≤ 8) (ln : n.length ≤ 8) (lt : t.length ≤ 5) : ∀ e ∈ odP8 h w n t, e.2.1.length ≤ 100 := fun e he => by
  unfold odP8 at he
  rcases List.mem_append.mp he with he | he
  · exact odq7 lh lw ln lt e he
  rcases List.mem_cons.mp he with rfl | he
  · simp only [od, len_app, rep_lenS, lq0, lq1, lq2, lq3, lq4, lq5, lq6, lq7, lq8, lq9, lq10, lq11, lq12, lq13, lq14, lq15, lq16, lq17, lq18, lq19, lq20, lq21, lq22, lq23, lq24, lq25, lq26, lq27]; omega
  rw [List.mem_singleton.mp he]; simp only [od, len_app, rep_lenS, lq0, lq1, lq2, lq3, lq4, lq5, lq6, lq7, lq8, lq9, lq10, lq11, lq12, lq13, lq14, lq15, lq16, lq17, lq18, lq19, lq20, lq21, lq22, lq23, lq24, lq25, lq26, lq27]; omega
theorem odq9 {t : Str} (lh : h.length ≤ 8) (lw : w.length ≤ 8) (ln : n.length ≤ 8) (lt : t.length ≤ 5) : ∀ e ∈ odP9 h w n t, e.2.1.length ≤ 100 := fun e he => by
  unfold odP9 at he
  rcases List.mem_append.mp he with he | he
  · exact odq8 lh lw ln lt e he
  rcases List.mem_cons.mp he with rfl | he
  · simp only [od, len_app, rep_lenS, lq0, lq1, lq2, lq3, lq4, lq5, lq6, lq7, lq8, lq9, lq10, lq11, lq12, lq13, lq14, lq15, lq16, lq17, lq18, lq19, lq20, lq21, lq22, lq23, lq24, lq25, lq26, lq27]; omega
  rw [List.mem_singleton.mp he]; simp only [od, len_app, rep_lenS, lq0, lq1, lq2, lq3, lq4, lq5, lq6, lq7, lq8, lq9, lq10, lq11, lq12, lq13, lq14, lq15, lq16, lq17, lq18, lq19, lq20, lq21, lq22, lq23, lq24, lq25, lq26, lq27]; omega
theorem odq10 {t : Str} (lh : h.length ≤ 8) (lw : w.length ≤ 8) (ln : n.length ≤ 8) (lt : t.length ≤ 5) : ∀ e ∈ odP10 h w n t, e.2.1.length ≤ 100 := fun e he => by
  unfold odP10 at he
  rcases List.mem_append.mp he with he | he
  · exact odq9 lh lw ln lt e he
  rcases List.mem_cons.mp he with rfl | he
  · simp only [od, len_app, rep_lenS, lq0, lq1, lq2, lq3, lq4, lq5, lq6, lq7, lq8, lq9, lq10, lq11, lq12, lq13, lq14, lq15, lq16, lq17, lq18, lq19, lq20, lq21, lq22, lq23, lq24, lq25, lq26, lq27]; omega
  rw [List.mem_singleton.mp he]; simp only [od, len_app, rep_lenS, lq0, lq1, lq2, lq3, lq4, lq5, lq6, lq7, lq8, lq9, lq10, lq11, lq12, lq13, lq14, lq15, lq16, lq17, lq18, lq19, lq20, lq21, lq22, lq23, lq24, lq25, lq26, lq27]; omega
theorem odq11 {t : Str} (lh : h.length ≤ 8) (lw : w.length ≤ 8) (ln : n.length ≤ 8) (lt : t.length ≤ 5) : ∀ e ∈ odP11 h w n t, e.2.1.length ≤ 100 := fun e he => by
  unfold odP11 at he
  rcases List.mem_append.mp he with he | he
  · exact odq10 lh lw ln lt e he
  rcases List.mem_cons.mp he with rfl | he
  · simp only [od, len_app, rep_lenS, lq0, lq1, lq2, lq3, lq4, lq5, lq6, lq7, lq8, lq9, lq10, lq11, lq12, lq13, lq14, lq15, lq16, lq17, lq18, lq19, lq20, lq21, lq22, lq23, lq24, lq25, lq26, lq27]; omega
  rw [List.mem_singleton.mp he]; simp only [od, len_app, rep_lenS, lq0, lq1, lq2, lq3, lq4, lq5, lq6, lq7, lq8, lq9, lq10, lq11, lq12, lq13, lq14, lq15, lq16, lq17, lq18, lq19, lq20, lq21, lq22, lq23, lq24, lq25, lq26, lq27]; omega
theorem odq12 {t : Str} (lh : h.length ≤ 8) (lw : w.length ≤ 8) (ln : n.length ≤ 8) (lt : t.length ≤ 5) : ∀ e ∈ odP12 h w n t, e.2.1.length ≤ 100 := fun e he => by
  unfold odP12 at he
  rcases List.mem_append.mp he with he | he
  · exact odq11 lh lw ln lt e he
  rcases List.mem_cons.mp he with rfl | he
  · simp only [od, len_app, rep_lenS, lq0, lq1, lq2, lq3, lq4, lq5, lq6, lq7, lq8, lq9, lq10, lq11, lq12, lq13, lq14, lq15, lq16, lq17, lq18, lq19, lq20, lq21, lq22, lq23, lq24, lq25, lq26, lq27]; omega
  rw [List.mem_singleton.mp he]; simp only [od, len_app, rep_lenS, lq0, lq1, lq2, lq3, lq4, lq5, lq6, lq7, lq8, lq9, lq10, lq11, lq12, lq13, lq14, lq15, lq16, lq17, lq18, lq19, lq20, lq21, lq22, lq23, lq24, lq25, lq26, lq27]; omega
theorem odq13 {t : Str} (lh : h.length ≤ 8) (lw : w.length ≤ 8) (ln : n.length ≤ 8) (lt : t.length ≤ 5) : ∀ e ∈ odP13 h w n t, e.2.1.length ≤ 100 := fun e he => by
  unfold odP13 at he
  rcases List.mem_append.mp he with he | he
  · exact odq12 lh lw ln lt e he
  rw [List.mem_singleton.mp he]; simp only [od, len_app, rep_lenS, lq0, lq1, lq2, lq3, lq4, lq5, lq6, lq7, lq8, lq9, lq10, lq11, lq12, lq13, lq14, lq15, lq16, lq17, lq18, lq19, lq20, lq21, lq22, lq23, lq24, lq25, lq26, lq27]; omega
theorem odq14 {t : Str} (lh : h.length ≤ 8) (lw : w.length ≤ 8) (ln : n.length ≤ 8) (lt : t.length ≤ 5) : ∀ e ∈ odP14 h w n t, e.2.1.length ≤ 100 := fun e he => by
  unfold odP14 at he
  rcases List.mem_append.mp he with he | he
  · exact odq13 lh lw ln lt e he
  rcases List.mem_cons.mp he with rfl | he
  · simp only [od, len_app, rep_lenS, lq0, lq1, lq2, lq3, lq4, lq5, lq6, lq7, lq8, lq9, lq10, lq11, lq12, lq13, lq14, lq15, lq16, lq17, lq18, lq19, lq20, lq21, lq22, lq23, lq24, lq25, lq26, lq27]; omega
  rcases List.mem_cons.mp he with rfl | he
  · simp only [od, len_app, rep_lenS, lq0, lq1, lq2, lq3, lq4, lq5, lq6, lq7, lq8, lq9, lq10, lq11, lq12, lq13, lq14, lq15, lq16, lq17, lq18, lq19, lq20, lq21, lq22, lq23, lq24, lq25, lq26, lq27]; omega
  rw [List.mem_singleton.mp he]; simp only [od, len_app, rep_lenS, lq0, lq1, lq2, lq3, lq4, lq5, lq6, lq7, lq8, lq9, lq10, lq11, lq12, lq13, lq14, lq15, lq16, lq17, lq18, lq19, lq20, lq21, lq22, lq23, lq24, lq25, lq26, lq27]; omega
theorem odq15 {t : Str} (lh : h.length ≤ 8) (lw : w.length ≤ 8) (ln : n.length ≤ 8) (lt : t.length ≤ 5) : ∀ e ∈ odP15 h w n t, e.2.1.length ≤ 100 := fun e he => by
  unfold odP15 at he
  rcases List.mem_append.mp he with he | he
  · exact odq14 lh lw ln lt e he
  rcases List.mem_cons.mp he with rfl | he
  · simp only [od, len_app, rep_lenS, lq0, lq1, lq2, lq3, lq4, lq5, lq6, lq7, lq8, lq9, lq10, lq11, lq12, lq13, lq14, lq15, lq16, lq17, lq18, lq19, lq20, lq21, lq22, lq23, lq24, lq25, lq26, lq27]; omega
  rw [List.mem_singleton.mp he]; simp only [od, len_app, rep_lenS, lq0, lq1, lq2, lq3, lq4, lq5, lq6, lq7, lq8, lq9, lq10, lq11, lq12, lq13, lq14, lq15, lq16, lq17, lq18, lq19, lq20, lq21, lq22, lq23, lq24, lq25, lq26, lq27]; omega
theorem odq16 {t : Str} (lh : h.length ≤ 8) (lw : w.length ≤ 8) (ln : n.length ≤ 8) (lt : t.length ≤ 5) : ∀ e ∈ odP16 h w n t, e.2.1.length ≤ 100 := fun e he => by
  unfold odP16 at he
  rcases List.mem_append.mp he with he | he
  · exact odq15 lh lw ln lt e he
  rcases List.mem_cons.mp he with rfl | he
  · simp only [od, len_app, rep_lenS, lq0, lq1, lq2, lq3, lq4, lq5, lq6, lq7, lq8, lq9, lq10, lq11, lq12, lq13, lq14, lq15, lq16, lq17, lq18, lq19, lq20, lq21, lq22, lq23, lq24, lq25, lq26, lq27]; omega
  rcases List.mem_cons.mp he with rfl | he
  · simp only [od, len_app, rep_lenS, lq0, lq1, lq2, lq3, lq4, lq5, lq6, lq7, lq8, lq9, lq10, lq11, lq12, lq13, lq14, lq15, lq16, lq17, lq18, lq19, lq20, lq21, lq22, lq23, lq24, lq25, lq26, lq27]; omega
  rcases List.mem_cons.mp he with rfl | he
  · simp only [od, len_app, rep_lenS, lq0, lq1, lq2, lq3, lq4, lq5, lq6, lq7, lq8, lq9, lq10, lq11, lq12, lq13, lq14, lq15, lq16, lq17, lq18, lq19, lq20, lq21, lq22, lq23, lq24, lq25, lq26, lq27]; omega
  rcases List.mem_cons.mp he with rfl | he
  · simp only [od, len_app, rep_lenS, lq0, lq1, lq2, lq3, lq4, lq5, lq6, lq7, lq8, lq9, lq10, lq11, lq12, lq13, lq14, lq15, lq16, lq17, lq18, lq19, lq20, lq21, lq22, lq23, lq24, lq25, lq26, lq27]; omega
  rw [List.mem_singleton.mp he]; simp only [od, len_app, rep_lenS, lq0, lq1, lq2, lq3, lq4, lq5, lq6, lq7, lq8, lq9, lq10, lq11, lq12, lq13, lq14, lq15, lq16, lq17, lq18, lq19, lq20, lq21, lq22, lq23, lq24, lq25, lq26, lq27]; omega
theorem odd_all (S : Sys h w n q p) : ∀ e ∈ oddL h w n (shS q), OddOk h w n q p e ∧ e.2.1.length ≤ 100 := fun e he => ⟨odk16 S e he, odq16 S.sh.2.1 S.sw.2.1 S.sn.2.1 (sh_len5 S.q0 S.qn S.qd) e he⟩
theorem sys_nums : ∀ a b : Fin 9, 0 < Rat.divInt (a.val + 1 : Nat) (a.val + b.val + 2 : Nat) ∧ (Rat.divInt (a.val + 1 : Nat) (a.val + b.val + 2 : Nat)).num < 100 ∧ (Rat.divInt (a.val + 1 : Nat) (a.val + b.val + 2 : Nat)).den < 100 ∧ Rat.divInt (a.val + 1 : Nat) (a.val + b.val + 2 : Nat) + Rat.divInt (b.val + 1 : Nat) (b.val + a.val + 2 : Nat) = 1 := by decide +kernel
theorem sys_mk {c a b : Int} (ha : 1 ≤ a ∧ a ≤ 9) (hb : 1 ≤ b ∧ b ≤ 9) : Sys (symS c 0) (symS c 1) (symS c 2) (Rat.divInt a (a + b)) (Rat.divInt b (a + b)) := by
  obtain ⟨i, hi⟩ := Int.eq_ofNat_of_zero_le (show 0 ≤ a - 1 by omega)
  obtain ⟨j, hj⟩ := Int.eq_ofNat_of_zero_le (show 0 ≤ b - 1 by omega)
  have k1 := sys_nums ⟨i, by omega⟩ ⟨j, by omega⟩
  have k2 := sys_nums ⟨j, by omega⟩ ⟨i, by omega⟩
  dsimp only at k1 k2
  have e1 : a = ((i + 1 : Nat) : Int) := by omega
  have e2 : b = ((j + 1 : Nat) : Int) := by omega
  have e3 : a + b = ((i + j + 2 : Nat) : Int) := by omega
  have e4 : a + b = ((j + i + 2 : Nat) : Int) := by omega
  rw [← e1, ← e3, ← e2, ← e4] at k1
  rw [← e1, ← e3, ← e2, ← e4] at k2
  exact ⟨sym_is c 0, sym_is c 1, sym_is c 2, fun z => absurd (sym_inj (by decide) (by decide) z) (by decide), k1.1, k1.2.1, k1.2.2.1, k2.1, k2.2.1, k2.2.2.1, k1.2.2.2⟩
theorem rws_txt (S : Sys h w n q p) : ∀ r ∈ rws h w n q p, r.length ≤ 100 := fun r hr => by
  unfold rws at hr
  rcases List.mem_cons.mp hr with rfl | hr
  · exact (st_good S.sh).2.1
  rcases List.mem_cons.mp hr with rfl | hr
  · exact S.r1.2.2.1
  rw [List.mem_singleton.mp hr]; exact S.r2.2.2.1
theorem rws_join {rows : List Str} (h : ∀ r ∈ rows, r.length ≤ 100) (hl : rows.length ≤ 10) : JoinOk "\n" rows = true := join_ok (B := 100) h (by rw [show ("\n" : Str).length = 1 by decide +kernel]; omega)
theorem rws_len {rows : List Str} (h : ∀ r ∈ rows, r.length ≤ 100) (hl : rows.length ≤ 10) : (Txt.join "\n" rows).length ≤ 1010 := by
  have := join_len (s := "\n") (B := 100) (ps := rows) h
  rw [show ("\n" : Str).length = 1 by decide +kernel] at this
  omega
end
end L3
set_option Elab.async false
set_option linter.all false
set_option maxRecDepth 100000
set_option maxHeartbeats 4000000
namespace Law
open PySem L2 L3
theorem sc_common_divisor : FnScope ["one", "other", "rest"] ["one", "other"] (defScope s_common_divisor) := ⟨rfl, rfl, rfl, by decide +kernel, rfl, by decide +kernel, by decide +kernel⟩
theorem sc_share : FnScope ["top", "bottom", "divisor"] ["top", "bottom"] (defScope s_share) := ⟨rfl, rfl, rfl, by decide +kernel, rfl, by decide +kernel, by decide +kernel⟩
theorem sc_added : FnScope ["one", "other", "divisor", "top", "left"] ["one", "other"] (defScope s_added) := ⟨rfl, rfl, rfl, by decide +kernel, rfl, by decide +kernel, by decide +kernel⟩
theorem sc_Grammar___init__ : FnScope ["self", "start", "rules"] ["self", "start", "rules"] (defScope s_Grammar___init__) := ⟨rfl, rfl, rfl, by decide +kernel, rfl, by decide +kernel, by decide +kernel⟩
theorem sc_check_rules : FnScope ["rules", "seen", "rule"] ["rules"] (defScope s_check_rules) := ⟨rfl, rfl, rfl, by decide +kernel, rfl, by decide +kernel, by decide +kernel⟩
theorem sc_check_rule : FnScope ["rule", "symbol"] ["rule"] (defScope s_check_rule) := ⟨rfl, rfl, rfl, by decide +kernel, rfl, by decide +kernel, by decide +kernel⟩
theorem sc_check_symbol : FnScope ["text"] ["text"] (defScope s_check_symbol) := ⟨rfl, rfl, rfl, by decide +kernel, rfl, by decide +kernel, by decide +kernel⟩
theorem sc_is_symbol : FnScope ["text"] ["text"] (defScope s_is_symbol) := ⟨rfl, rfl, rfl, by decide +kernel, rfl, by decide +kernel, by decide +kernel⟩
theorem sc_is_letter : FnScope ["sign"] ["sign"] (defScope s_is_letter) := ⟨rfl, rfl, rfl, by decide +kernel, rfl, by decide +kernel, by decide +kernel⟩
theorem sc_check_start : FnScope ["start", "heads"] ["start", "heads"] (defScope s_check_start) := ⟨rfl, rfl, rfl, by decide +kernel, rfl, by decide +kernel, by decide +kernel⟩
theorem sc_check_sums : FnScope ["heads", "rules", "head", "total", "rule"] ["heads", "rules"] (defScope s_check_sums) := ⟨rfl, rfl, rfl, by decide +kernel, rfl, by decide +kernel, by decide +kernel⟩
theorem sc_heads_of : FnScope ["rules", "heads", "rule"] ["rules"] (defScope s_heads_of) := ⟨rfl, rfl, rfl, by decide +kernel, rfl, by decide +kernel, by decide +kernel⟩
theorem sc_live_of : FnScope ["heads", "rules", "live", "grown", "found"] ["heads", "rules"] (defScope s_live_of) := ⟨rfl, rfl, rfl, by decide +kernel, rfl, by decide +kernel, by decide +kernel⟩
theorem sc_has_live_body : FnScope ["head", "rules", "heads", "live"] ["head", "rules", "heads", "live"] (defScope s_has_live_body) := ⟨rfl, rfl, rfl, by decide +kernel, rfl, by decide +kernel, by decide +kernel⟩
theorem sc_is_live_body : FnScope ["body", "heads", "live"] ["body", "heads", "live"] (defScope s_is_live_body) := ⟨rfl, rfl, rfl, by decide +kernel, rfl, by decide +kernel, by decide +kernel⟩
theorem sc_read : FnScope ["text", "rows", "start"] ["text"] (defScope s_read) := ⟨rfl, rfl, rfl, by decide +kernel, rfl, by decide +kernel, by decide +kernel⟩
theorem sc_read_start : FnScope ["row", "words"] ["row"] (defScope s_read_start) := ⟨rfl, rfl, rfl, by decide +kernel, rfl, by decide +kernel, by decide +kernel⟩
theorem sc_read_rule : FnScope ["row", "words"] ["row"] (defScope s_read_rule) := ⟨rfl, rfl, rfl, by decide +kernel, rfl, by decide +kernel, by decide +kernel⟩
theorem sc_read_share : FnScope ["text", "figures", "found"] ["text"] (defScope s_read_share) := ⟨rfl, rfl, rfl, by decide +kernel, rfl, by decide +kernel, by decide +kernel⟩
theorem sc_is_number : FnScope ["text"] ["text"] (defScope s_is_number) := ⟨rfl, rfl, rfl, by decide +kernel, rfl, by decide +kernel, by decide +kernel⟩
theorem sc_law_cell_at : FnScope ["_law_script", "_law_k"] ["_law_script", "_law_k"] (defScope s_law_cell_at) := ⟨rfl, rfl, rfl, by decide +kernel, rfl, by decide +kernel, by decide +kernel⟩
theorem sc_law_symbols : FnScope ["_law_cell", "_law_many", "_law_letters", "_law_size", "_law_at", "_law_out", "_law_k", "_law_name", "_law_place", "_law_step"] ["_law_cell", "_law_many"] (defScope s_law_symbols) := ⟨rfl, rfl, rfl, by decide +kernel, rfl, by decide +kernel, by decide +kernel⟩
theorem sc_law_share : FnScope ["_law_top", "_law_bottom", "_law_one", "_law_other", "_law_rest"] ["_law_top", "_law_bottom"] (defScope s_law_share) := ⟨rfl, rfl, rfl, by decide +kernel, rfl, by decide +kernel, by decide +kernel⟩
theorem sc_law_kind : FnScope ["_law_text", "e"] ["_law_text"] (defScope s_law_kind) := ⟨rfl, rfl, rfl, by decide +kernel, rfl, by decide +kernel, by decide +kernel⟩
theorem sc_law_odd : FnScope ["_law_names", "_law_own", "_law_cell", "_law_head", "_law_word", "_law_told", "_law_some"] ["_law_names", "_law_own", "_law_cell"] (defScope s_law_odd) := ⟨rfl, rfl, rfl, by decide +kernel, rfl, by decide +kernel, by decide +kernel⟩
theorem sc_law : FnScope ["_law_script", "_law_names", "_law_parts", "_law_shares", "_law_rows", "_law_bodies", "_law_k", "_law_told", "_law_at", "_law_row", "_law_why", "_law_text"] ["_law_script"] (defScope s_law) := ⟨rfl, rfl, rfl, by decide +kernel, rfl, by decide +kernel, by decide +kernel⟩
section
variable {P : Program} {w : World} {K : PySem.W.Frag} {mg : Str → Option Value} {base : Heap} {C_Grammar : Addr}
theorem ok_common_divisor  (d : DefK K mg "common_divisor" s_common_divisor ["one", "other"])  : OkF P w K mg base CX0 2 "common_divisor" ["one", "other"] (spP K 2 C_gcd) := by
  refine ok_pure d sc_common_divisor rfl fun f cdv A outer s H E hr ds r hC B hB => ?_
  obtain ⟨a, b, rfl, rfl, ha, hb⟩ := hC
  refine w_while PassesOwn.never (fun Γ _ => ∃ (x y : Int) (z : Option D), Γ = [some (.int x), some (.int y), z] ∧ 0 ≤ x ∧ 0 ≤ y ∧ My.G x y = My.G a b) (fun Γ _ => match Γ with | [_, some (.int y), _] => y.toNat | _ => 0) ⟨a, b, none, rfl, ha, hb, rfl⟩ ?_
  rintro Γ Ω ⟨x, y, z, rfl, hx, hy, hg⟩
  refine ⟨_, (t_cmp (c_gt (p_var (i := 1) rfl (.inl rfl) rfl) p_int)), fun hk => ?_, fun hk => ?_⟩
  · have hk := of_decide_eq_true hk
    refine w_set (i := 2) sc_common_divisor.nd rfl (.inl rfl) (p_mod (p_var (i := 0) rfl (.inl rfl) rfl) (p_var (i := 1) rfl (.inl rfl) rfl) ?_) ?_
    · exact hk
    refine w_set (i := 0) sc_common_divisor.nd rfl (.inl rfl) (p_var (i := 1) rfl (.inl rfl) rfl) ?_
    refine w_set (i := 1) sc_common_divisor.nd rfl (.inl rfl) (p_var (i := 2) rfl (.inl rfl) rfl) ?_
    refine w_nil ⟨⟨y, x % y, _, rfl, hy, (emod_in hk).1, (G_turnE hx hk).trans hg⟩, ?_⟩
    have := emod_in (a := x) hk
    show (x % y).toNat < y.toNat
    omega
  · have hk := of_decide_eq_false hk
    refine w_ret (p_var (i := 0) rfl (.inl rfl) rfl) ?_
    have y0 : y = 0 := by omega
    subst y0
    rw [My.G_end hx] at hg
    show D.int x = D.int (My.G a b)
    rw [hg]
theorem ok_share (ht : P.given.tree = none) (d : DefK K mg "share" s_share ["top", "bottom"]) (o_common_divisor : OkF P w K mg base CX0 2 "common_divisor" ["one", "other"] (spP K 2 C_gcd)) : OkF P w K mg base CX0 33 "share" ["top", "bottom"] (spP K 2 C_share) := by
  refine ok_pure d sc_share rfl fun f cdv A outer s H E hr ds r hC B hB => ?_
  obtain ⟨t, b, rfl, rfl, h1, h2⟩ := hC
  have py : Pyl (cx0 P w K mg base ["top", "bottom", "divisor"] "share" s_share f cdv A outer s H E) := (pyl_cx ht rfl rfl hr (Nat.le_refl _)).nox
  have g0 := My.G_pos (a := t) h2
  refine w_if (t_cmp (c_lt (p_var (i := 0) rfl (.inl rfl) rfl) p_int)) ?_ ?_
  · intro hk; have hk := of_decide_eq_true hk; omega
  · intro hk
    refine w_nil ?_
    refine w_if (t_cmp (c_lt (p_var (i := 1) rfl (.inl rfl) rfl) p_int)) ?_ ?_
    · intro hk; have hk := of_decide_eq_true hk; omega
    · intro hk
      refine w_nil ?_
      refine w_set (i := 2) sc_share.nd rfl (.inl rfl) (p_call (d := .int (My.G t b)) o_common_divisor (hr.mono (by decide)) rfl (pl_cons (p_var (i := 0) rfl (.inl rfl) rfl) (pl_cons (p_var (i := 1) rfl (.inl rfl) rfl) pl_nil)) ?_) ?_
      · exact ⟨t, b, rfl, rfl, h1, Int.le_of_lt h2⟩
      refine w_ret (p_tup (pl_cons (p_fdivP py (p_var (i := 0) rfl (.inl rfl) rfl) (p_var (i := 2) rfl (.inl rfl) rfl) ?_) (pl_cons (p_fdivP py (p_var (i := 1) rfl (.inl rfl) rfl) (p_var (i := 2) rfl (.inl rfl) rfl) ?_) pl_nil))) ?_
      · exact g0
      · exact g0
      show D.tup [D.int (t / My.G t b), D.int (b / My.G t b)] = sh (Rat.divInt t b)
      unfold sh
      rw [← My.num_share h2, ← My.den_share h2, Int.fdiv_eq_ediv_of_nonneg _ (Int.le_of_lt g0), Int.fdiv_eq_ediv_of_nonneg _ (Int.le_of_lt g0)]
theorem ok_added (ht : P.given.tree = none) (d : DefK K mg "added" s_added ["one", "other"]) (o_common_divisor : OkF P w K mg base CX0 2 "common_divisor" ["one", "other"] (spP K 2 C_gcd)) : OkF P w K mg base CX0 33 "added" ["one", "other"] (spP K 2 C_added) := by
  refine ok_pure d sc_added rfl fun f cdv A outer s H E hr ds r hC B hB => ?_
  obtain ⟨p, q, m, n, rfl, rfl, hp, hq, s1, s2, l1, l2, -⟩ := hC
  have py : Pyl (cx0 P w K mg base ["one", "other", "divisor", "top", "left"] "added" s_added f cdv A outer s H E) := (pyl_cx ht rfl rfl hr (by decide)).nox
  have g0 : 0 < My.G p.den q.den := My.G_pos (My.den_pos' q)
  have n1 := My.q_num_nn hp
  have n2 := My.q_num_nn hq
  have c1 := dv_le (a := (p.den : Int)) (g := My.G p.den q.den) (Int.le_of_lt (My.den_pos' p)) g0
  have c2 := dv_le (a := (q.den : Int)) (g := My.G p.den q.den) (Int.le_of_lt (My.den_pos' q)) g0
  refine w_set (i := 2) sc_added.nd rfl (.inl rfl) (p_call (d := .int (My.G p.den q.den)) o_common_divisor (hr.mono (by decide)) rfl (pl_cons (p_ixT (p_var (i := 0) rfl (.inl rfl) rfl) p_int rfl) (pl_cons (p_ixT (p_var (i := 1) rfl (.inl rfl) rfl) p_int rfl) pl_nil)) ?_) ?_
  · exact ⟨_, _, rfl, rfl, Int.le_of_lt (My.den_pos' p), Int.le_of_lt (My.den_pos' q)⟩
  refine w_set (i := 3) sc_added.nd rfl (.inl rfl) (p_add (p_mul (p_ixT (p_var (i := 0) rfl (.inl rfl) rfl) p_int rfl) (p_fdivP py (p_ixT (p_var (i := 1) rfl (.inl rfl) rfl) p_int rfl) (p_var (i := 2) rfl (.inl rfl) rfl) ?_) ?_) (p_mul (p_ixT (p_var (i := 1) rfl (.inl rfl) rfl) p_int rfl) (p_fdivP py (p_ixT (p_var (i := 0) rfl (.inl rfl) rfl) p_int rfl) (p_var (i := 2) rfl (.inl rfl) rfl) ?_) ?_)) ?_
  · exact g0
  · exact mul_fit s1.1 (dv_fit c2 (den_abs s2)) (by have : big = 67108864 := rfl; omega)
  · exact g0
  · exact mul_fit s2.1 (dv_fit c1 (den_abs s1)) (by have : big = 67108864 := rfl; omega)
  have t0 : 0 ≤ p.num * ((q.den : Int) / My.G p.den q.den) + q.num * ((p.den : Int) / My.G p.den q.den) := Int.add_nonneg (Int.mul_nonneg n1 c2.1) (Int.mul_nonneg n2 c1.1)
  have e := My.add_num n1 n2
  generalize hT : p.num * ((q.den : Int) / My.G p.den q.den) + q.num * ((p.den : Int) / My.G p.den q.den) = T at *
  have h0 : 0 < My.G T (My.G p.den q.den) := My.G_pos g0
  have c3 := dv_le (a := (q.den : Int)) (g := My.G T (My.G p.den q.den)) (Int.le_of_lt (My.den_pos' q)) h0
  refine w_set (i := 4) sc_added.nd rfl (.inl rfl) (p_call (d := .int (My.G T (My.G p.den q.den))) o_common_divisor (hr.mono (by decide)) rfl (pl_cons (p_var (i := 3) rfl (.inl rfl) rfl) (pl_cons (p_var (i := 2) rfl (.inl rfl) rfl) pl_nil)) ?_) ?_
  · exact ⟨_, _, rfl, rfl, t0, Int.le_of_lt g0⟩
  refine w_ret (p_tup (pl_cons (p_fdivP py (p_var (i := 3) rfl (.inl rfl) rfl) (p_var (i := 4) rfl (.inl rfl) rfl) ?_) (pl_cons (p_mul (p_fdivP py (p_ixT (p_var (i := 0) rfl (.inl rfl) rfl) p_int rfl) (p_var (i := 2) rfl (.inl rfl) rfl) ?_) (p_fdivP py (p_ixT (p_var (i := 1) rfl (.inl rfl) rfl) p_int rfl) (p_var (i := 4) rfl (.inl rfl) rfl) ?_) ?_) pl_nil))) ?_
  · exact h0
  · exact g0
  · exact h0
  · exact mul_fit (dv_fit c1 (den_abs s1)) (dv_fit c3 (den_abs s2)) (by have : big = 67108864 := rfl; omega)
  show D.tup [D.int (T / My.G T (My.G p.den q.den)), D.int ((p.den : Int) / My.G p.den q.den * ((q.den : Int) / My.G T (My.G p.den q.den)))] = sh (p + q)
  unfold sh
  rw [e.1, e.2]
end
end Law
set_option Elab.async false
set_option linter.all false
set_option maxRecDepth 100000
set_option maxHeartbeats 4000000
namespace Law
open PySem L2 L3
section
variable {P : Program} {w : World} {K : PySem.W.Frag} {mg : Str → Option Value} {base : Heap} {C_Grammar : Addr}
theorem ok_is_letter  (d : DefK K mg "is_letter" s_is_letter ["sign"])  : OkF P w K mg base CX0 2 "is_letter" ["sign"] (spP K 1 C_letter) := by
  refine ok_pure d sc_is_letter rfl fun f cdv A outer s H E hr ds r hC B hB => ?_
  obtain ⟨c, rfl, rfl⟩ := hC
  refine w_ret (p_or (p_chainS p_str (p_var (i := 0) rfl (.inl rfl) rfl) p_str) fun _ => (p_one (p_chainS p_str (p_var (i := 0) rfl (.inl rfl) rfl) p_str))) ?_
  show D.bl ((leS "a" ⟨#[c]⟩ && leS ⟨#[c]⟩ "z") || (leS "A" ⟨#[c]⟩ && leS ⟨#[c]⟩ "Z")) = D.bl (isLet c)
  rw [leS_l (n := 97) (by decide +kernel), leS_r (n := 122) (by decide +kernel), leS_l (n := 65) (by decide +kernel), leS_r (n := 90) (by decide +kernel)]
  rfl
theorem ok_is_symbol (z : Zs mg) (g_MOST_LETTERS : GlobD K mg "MOST_LETTERS" (.int 8)) (d : DefK K mg "is_symbol" s_is_symbol ["text"]) (o_is_letter : OkF P w K mg base CX0 2 "is_letter" ["sign"] (spP K 1 C_letter)) : OkF P w K mg base CX0 3 "is_symbol" ["text"] (spP K 1 C_isSym) := by
  refine ok_pure d sc_is_symbol rfl fun f cdv A outer s H E hr ds r hC B hB => ?_
  obtain ⟨x, rfl, rfl, h1, h2⟩ := hC
  have hl : x.length = x.cps.size := rfl
  refine w_ret (p_and (p_chainI2 p_int (p_lenS z.len rfl (p_var (i := 0) rfl (.inl rfl) rfl) ?_) (p_globD g_MOST_LETTERS rfl)) fun _ => (p_one (p_all rfl z.all rfl (PF3.p (pf_comp (SX := defScope s_is_symbol) (XN := ["text"]) (N := ["sign"]) (nt := 1) (caps := []) (pre := (fun i => ((x.cps.toList.take i).map isLet).map D.bl)) ⟨rfl, by decide +kernel, by decide +kernel, by decide +kernel, rfl, by decide +kernel⟩ (i_text (p_var (i := 0) rfl (.inl rfl) rfl) ?_) ?_ ?_ ?_))))) ?_
  · rw [hl, sizeLine_eq]; omega
  · exact h2
  · intro i hi
    rw [List.length_map, List.length_map, List.length_take, sizeLine_eq]
    simp only [Array.length_toList]
    omega
  · rfl
  · intro c i d hd
    obtain ⟨n, hn, rfl⟩ := signs_get hd
    refine ⟨_, (g_name (i := 0) (show List.Nodup (α := Str) ["sign"] by decide +kernel) rfl (.inl rfl)), (Sub.set rfl), .inl ⟨.bl (isLet n), ts_nil, (p_call (d := .bl (isLet n)) o_is_letter (hr.mono (by decide)) rfl (pl_cons (p_var (i := 0) rfl (.inl rfl) rfl) pl_nil) ?_), ?_⟩⟩
    · exact ⟨n, rfl, rfl⟩
    · dsimp only; rw [take_get hn, List.map_append, List.map_append]; rfl
  show D.bl _ = D.bl _
  congr 1
  rw [signs_len, ← Array.length_toList, List.take_length, List.all_map, Bool.eq_iff_iff, isSymB_iff]
  simp only [Bool.and_eq_true, decide_eq_true_eq, List.all_eq_true, IsSym]
  rw [hl]
  constructor
  · intro h; exact ⟨by omega, by omega, fun c hc => h.2 c hc⟩
  · intro h; exact ⟨⟨by omega, by omega⟩, fun c hc => h.2.2 c hc⟩
theorem ok_check_symbol (z : Zs mg) (g_MOST_LETTERS : GlobD K mg "MOST_LETTERS" (.int 8)) (d : DefK K mg "check_symbol" s_check_symbol ["text"]) (o_is_symbol : OkF P w K mg base CX0 3 "is_symbol" ["text"] (spP K 1 C_isSym)) : OkF P w K mg base CX0 4 "check_symbol" ["text"] (spP K 1 C_symbol) := by
  refine ok_pure d sc_check_symbol rfl fun f cdv A outer s H E hr ds r hC B hB => ?_
  obtain ⟨x, rfl, rfl, hx⟩ := hC
  have e : isSymB x = true := isSymB_iff.mpr hx
  refine w_if (t_not (t_val (p_call (d := .bl (isSymB x)) o_is_symbol (hr.mono (by decide)) rfl (pl_cons (p_var (i := 0) rfl (.inl rfl) rfl) pl_nil) ?_))) ?_ ?_
  · exact ⟨x, rfl, rfl, by have := hx.2.1; omega, sym_ascii hx⟩
  · intro hk
    rw [e] at hk
    exact absurd hk (by decide)
  · intro _
    exact w_nil (w_nil rfl)
theorem ok_check_rule (z : Zs mg) (g_NOUGHT : GlobD K mg "NOUGHT" (sh 0)) (g_MOST_SYMBOLS : GlobD K mg "MOST_SYMBOLS" (.int 4)) (d : DefK K mg "check_rule" s_check_rule ["rule"]) (o_check_symbol : OkF P w K mg base CX0 4 "check_symbol" ["text"] (spP K 1 C_symbol)) : OkF P w K mg base CX0 5 "check_rule" ["rule"] (spP K 1 C_rule) := by
  refine ok_pure d sc_check_rule rfl fun f cdv A outer s H E hr ds r hC B hB => ?_
  obtain ⟨r, rfl, rfl, h1, h2, h3, h4, h5⟩ := hC
  refine w_expr (p_call (d := .non) o_check_symbol (hr.mono (by decide)) rfl (pl_cons (p_ixT (p_var (i := 0) rfl (.inl rfl) rfl) p_int rfl) pl_nil) ?_) ?_
  · exact ⟨r.1, rfl, rfl, h1⟩
  refine w_if (PW3.t (tw_or (t_cmp (c_lt (p_lenT z.len rfl (p_ixT (p_var (i := 0) rfl (.inl rfl) rfl) p_int rfl)) p_int)) fun _ => (tw_or1 (t_cmp (c_gt (p_lenT z.len rfl (p_ixT (p_var (i := 0) rfl (.inl rfl) rfl) p_int rfl)) (p_globD g_MOST_SYMBOLS rfl)))))) ?_ ?_
  · intro hk
    rw [show (r.2.1.map D.str).length = r.2.1.length from List.length_map _] at hk
    simp at hk
    omega
  · intro _
    refine w_nil ?_
    refine w_for PassesOwn.never rfl (i_tup (p_ixT (p_var (i := 0) rfl (.inl rfl) rfl) p_int rfl)) (fun i Γ Ω => ∃ x, Γ = [some (ruleD r), x] ∧ Ω = []) ⟨_, rfl, rfl⟩ ?_ ?_
    · rintro i d Γ Ω hd ⟨x, rfl, rfl⟩
      obtain ⟨y, hy, rfl⟩ := strsD_get hd
      refine ⟨_, (g_name (i := 1) sc_check_rule.nd rfl (.inl rfl)), ?_⟩
      refine w_expr (p_call (d := .non) o_check_symbol (hr.mono (by decide)) rfl (pl_cons (p_var (i := 1) rfl (.inl rfl) rfl) pl_nil) ?_) ?_
      · exact ⟨y, rfl, rfl, h4 y (List.mem_of_getElem? hy)⟩
      exact w_nil ⟨_, rfl, rfl⟩
    · rintro Γ Ω ⟨x, rfl, rfl⟩
      refine w_if (t_cmp (c_eq hr.units (p_ixT (p_var (i := 0) rfl (.inl rfl) rfl) p_int rfl) (p_globD g_NOUGHT rfl) kin_sh dep_sh)) ?_ ?_
      · intro hk
        rw [beq_sh] at hk
        rw [of_decide_eq_true hk] at h5
        exact absurd h5 (by decide)
      · intro _
        exact w_nil (w_nil rfl)
theorem ok_check_rules (z : Zs mg) (g_MOST_RULES : GlobD K mg "MOST_RULES" (.int 30)) (d : DefK K mg "check_rules" s_check_rules ["rules"]) (o_check_rule : OkF P w K mg base CX0 5 "check_rule" ["rule"] (spP K 1 C_rule)) : OkF P w K mg base CX0 6 "check_rules" ["rules"] (spP K 1 C_rules) := by
  refine ok_pure d sc_check_rules rfl fun f cdv A outer s H E hr ds r hC B hB => ?_
  obtain ⟨rs, rfl, rfl, h1, h2, h3, h4⟩ := hC
  refine w_if (PW3.t (tw_or (t_cmp (c_lt (p_lenL z.len rfl (p_var (i := 0) rfl (.inl rfl) rfl)) p_int)) fun _ => (tw_or1 (t_cmp (c_gt (p_lenL z.len rfl (p_var (i := 0) rfl (.inl rfl) rfl)) (p_globD g_MOST_RULES rfl)))))) ?_ ?_
  · intro hk
    rw [rulesD_len] at hk
    simp at hk
    omega
  · intro _
    refine w_nil ?_
    refine w_setV (i := 1) sc_check_rules.nd rfl (.inl rfl) (v_dnew fun l => ?_)
    refine w_for PassesOwn.never rfl (i_list (p_var (i := 0) rfl (.inl rfl) rfl)) (fun i Γ Ω => ∃ x, Γ = [some (.lst (rulesD rs)), some (.raw (.ref l)), x] ∧ Ω = [(l, oDic P w K l (seenD (rs.take i)))]) ⟨_, rfl, rfl⟩ ?_ ?_
    · rintro i d Γ Ω hd ⟨x, rfl, rfl⟩
      obtain ⟨r, hr', rfl⟩ := rulesD_get hd
      have hn := nodup_take (f := fun r : Rule => (r.1, r.2.1)) h4 hr'
      refine ⟨_, (g_name (i := 2) sc_check_rules.nd rfl (.inl rfl)), ?_⟩
      refine w_expr (p_call (d := .non) o_check_rule (hr.mono (by decide)) rfl (pl_cons (p_var (i := 2) rfl (.inl rfl) rfl) pl_nil) ?_) ?_
      · exact ⟨r, rfl, rfl, h3 r (List.mem_of_getElem? hr')⟩
      refine w_ifV (vt_inD hr.units (v_pure (p_tup (pl_cons (p_ixT (p_var (i := 2) rfl (.inl rfl) rfl) p_int rfl) (pl_cons (p_ixT (p_var (i := 2) rfl (.inl rfl) rfl) p_int rfl) pl_nil))) ⟨keyR r, keyR_eq r, v_pure (p_var (i := 1) rfl (.inl rfl) rfl) ⟨l, _, rfl, List.mem_singleton.mpr rfl, fun hk => ?_, fun _ => ?_⟩⟩))
      · rw [seen_not hn] at hk
        cases hk
      · refine w_nil ?_
        refine w_setD hr.units (v_pure p_bl (v_pure (p_var (i := 1) rfl (.inl rfl) rfl) ⟨l, rfl, v_pure (p_tup (pl_cons (p_ixT (p_var (i := 2) rfl (.inl rfl) rfl) p_int rfl) (pl_cons (p_ixT (p_var (i := 2) rfl (.inl rfl) rfl) p_int rfl) pl_nil))) ⟨keyR r, _, [], keyR_eq r, List.Perm.refl _, ?_, ?_⟩⟩))
        · unfold seenD
          rw [List.length_map, List.length_take, sizeLine_eq]
          omega
        · refine w_nil ⟨_, rfl, ?_⟩
          rw [seen_put hn, take_get hr']
          rfl
    · rintro Γ Ω ⟨x, rfl, rfl⟩
      exact w_nil rfl
theorem ok_check_start  (d : DefK K mg "check_start" s_check_start ["start", "heads"])  : OkF P w K mg base CX0 2 "check_start" ["start", "heads"] (spP K 2 C_start) := by
  refine ok_pure d sc_check_start rfl fun f cdv A outer s H E hr ds r hC B hB => ?_
  obtain ⟨x, hs, rfl, rfl, hx⟩ := hC
  refine w_if (t_cmp (c_notIn hr.units (p_var (i := 0) rfl (.inl rfl) rfl) (p_var (i := 1) rfl (.inl rfl) rfl) (.inl rfl) ?_)) ?_ ?_
  · exact strs_kin
  · intro hk
    rw [in_strs, decide_eq_true hx] at hk
    cases hk
  · intro _
    exact w_nil (w_nil rfl)
theorem ok_check_sums (g_NOUGHT : GlobD K mg "NOUGHT" (sh 0)) (g_ONE : GlobD K mg "ONE" (sh 1)) (d : DefK K mg "check_sums" s_check_sums ["heads", "rules"]) (o_added : OkF P w K mg base CX0 33 "added" ["one", "other"] (spP K 2 C_added)) : OkF P w K mg base CX0 34 "check_sums" ["heads", "rules"] (spP K 2 C_sums) := by
  refine ok_pure d sc_check_sums rfl fun f cdv A outer s H E hr ds r hC B hB => ?_
  obtain ⟨hs, rs, rfl, rfl, h1, h2, h3⟩ := hC
  refine w_for PassesOwn.never rfl (i_list (p_var (i := 0) rfl (.inl rfl) rfl)) (fun i Γ Ω => ∃ x2 x3 x4, Γ = [some (.lst (strsD hs)), some (.lst (rulesD rs)), x2, x3, x4] ∧ Ω = []) ⟨_, _, _, rfl, rfl⟩ ?_ ?_
  · rintro i d Γ Ω hd ⟨x2, x3, x4, rfl, rfl⟩
    obtain ⟨h, hh, rfl⟩ := strsD_get hd
    refine ⟨_, (g_name (i := 2) sc_check_sums.nd rfl (.inl rfl)), ?_⟩
    refine w_set (i := 3) sc_check_sums.nd rfl (.inl rfl) (p_globD g_NOUGHT rfl) ?_
    refine w_for PassesOwn.never rfl (i_list (p_var (i := 1) rfl (.inl rfl) rfl)) (fun j Γ Ω => ∃ (t : Rat) (x4 : Option D), (0 ≤ t ∧ Sz (1 + j * 1001) t) ∧ t = sumOf h (rs.take j) ∧ Γ = [some (.lst (strsD hs)), some (.lst (rulesD rs)), some (.str h), some (sh t), x4] ∧ Ω = []) ⟨0, _, ⟨by decide, sz_0⟩, rfl, rfl, rfl⟩ ?_ ?_
    · rintro j d Γ Ω hd ⟨t, x4, ht, et, rfl, rfl⟩
      obtain ⟨r, hr', rfl⟩ := rulesD_get hd
      have hj : j < rs.length := (List.getElem?_eq_some_iff.mp hr').1
      have hq := h3 r (List.mem_of_getElem? hr')
      have ef : sumOf h (rs.take (j + 1)) = addIf h t r := by rw [take_get hr']; unfold sumOf at et ⊢; rw [List.foldl_append, ← et]; rfl
      have ht' := sz_sumI ht hq
      refine ⟨_, (g_name (i := 4) sc_check_sums.nd rfl (.inl rfl)), ?_⟩
      refine w_if (t_cmp (c_eqS (p_ixT (p_var (i := 4) rfl (.inl rfl) rfl) p_int rfl) (p_var (i := 2) rfl (.inl rfl) rfl))) ?_ ?_
      · intro hk
        have hk := of_decide_eq_true hk
        refine w_set (i := 3) sc_check_sums.nd rfl (.inl rfl) (p_call (d := sh (t + r.2.2)) o_added (hr.mono (by decide)) rfl (pl_cons (p_var (i := 3) rfl (.inl rfl) rfl) (pl_cons (p_ixT (p_var (i := 4) rfl (.inl rfl) rfl) p_int rfl) pl_nil)) ?_) ?_
        · exact ⟨t, r.2.2, 1 + j * 1001, 1000, rfl, rfl, ht.1, hq.1, ht.2, hq.2, by have : big = 67108864 := rfl; omega, by decide, trivial⟩
        exact w_nil (w_nil ⟨_, _, ht', by rw [ef]; exact (if_pos hk).symm, rfl, rfl⟩)
      · intro hk
        have hk := of_decide_eq_false hk
        exact w_nil (w_nil ⟨t, _, ⟨ht.1, ht.2.mono (by omega)⟩, by rw [ef]; exact (if_neg hk).symm, rfl, rfl⟩)
    · rintro Γ Ω ⟨t, x4, ht, et, rfl, rfl⟩
      rw [rulesD_len, List.take_length, h2 h (List.mem_of_getElem? hh)] at et
      subst et
      refine w_if (t_cmp (c_ne hr.units (p_var (i := 3) rfl (.inl rfl) rfl) (p_globD g_ONE rfl) kin_sh dep_sh)) ?_ ?_
      · intro hk
        rw [beq_sh] at hk
        simp at hk
      · intro _
        exact w_nil (w_nil ⟨_, _, _, rfl, rfl⟩)
  · rintro Γ Ω ⟨x2, x3, x4, rfl, rfl⟩
    exact w_nil rfl
theorem ok_heads_of  (d : DefK K mg "heads_of" s_heads_of ["rules"])  : OkF P w K mg base CX0 2 "heads_of" ["rules"] (spP K 1 C_heads) := by
  refine ok_pure d sc_heads_of rfl fun f cdv A outer s H E hr ds r hC B hB => ?_
  obtain ⟨rs, rfl, rfl, h1⟩ := hC
  refine w_own (i := 1) sc_heads_of.nd rfl (.inl rfl) (pf_lst pl_nil) fun l => ?_
  refine w_for PassesOwn.never rfl (i_list (p_var (i := 0) rfl (.inl rfl) rfl)) (fun i Γ Ω => ∃ (acc : List Str) (x : Option D), acc = (rs.take i).foldl addHead [] ∧ acc.length ≤ i ∧ Γ = [some (.lst (rulesD rs)), some (.raw (.ref l)), x] ∧ Ω = [(l, oLst K (strsD acc))]) ⟨[], _, rfl, Nat.le_refl _, rfl, rfl⟩ ?_ ?_
  · rintro i d Γ Ω hd ⟨acc, x, ea, la, rfl, rfl⟩
    obtain ⟨r, hr', rfl⟩ := rulesD_get hd
    have hi : i < rs.length := (List.getElem?_eq_some_iff.mp hr').1
    have en : (rs.take (i + 1)).foldl addHead [] = addHead acc r := by rw [take_get hr', List.foldl_append, ← ea]; rfl
    refine ⟨_, (g_name (i := 2) sc_heads_of.nd rfl (.inl rfl)), ?_⟩
    refine w_ifV (vt_lend (Γ' := [some (.lst (rulesD rs)), some (.lst (strsD acc)), some (ruleD r)]) (t_cmp (c_notIn hr.units (p_ixT (p_var (i := 2) rfl (.inl rfl) rfl) p_int rfl) (p_var (i := 1) rfl (.inl rfl) rfl) (.inl rfl) ?_)) (lent_set (i := 1) lent_refl rfl (List.mem_singleton.mpr rfl) lends_lst) ⟨fun hk => ?_, fun hk => ?_⟩)
    · exact strs_kin
    · rw [in_strs] at hk
      have hn : r.1 ∉ acc := by simpa using hk
      refine w_append (i := 1) rfl (.inl rfl) rfl (p_ixT (p_var (i := 2) rfl (.inl rfl) rfl) p_int rfl) (by rw [strsD_len, sizeLine_eq]; omega) ?_
      refine w_nil (w_nil ⟨acc ++ [r.1], _, ?_, ?_, rfl, ?_⟩)
      · rw [en]; exact (if_neg hn).symm
      · rw [List.length_append]; exact Nat.succ_le_succ la
      · unfold strsD; rw [List.map_append]; rfl
    · rw [in_strs] at hk
      have hn : r.1 ∈ acc := by simpa using hk
      exact w_nil (w_nil ⟨acc, _, by rw [en]; exact (if_pos hn).symm, by omega, rfl, rfl⟩)
  · rintro Γ Ω ⟨acc, x, ea, la, rfl, rfl⟩
    rw [rulesD_len, List.take_length] at ea
    refine w_freeze (i := 1) rfl ?_
    refine w_ret (p_var (i := 1) rfl (.inl rfl) rfl) ?_
    rw [ea]
    rfl
theorem ok_is_live_body (z : Zs mg) (d : DefK K mg "is_live_body" s_is_live_body ["body", "heads", "live"])  : OkF P w K mg base CX0 2 "is_live_body" ["body", "heads", "live"] (spP K 3 C_liveBody) := by
  refine ok_pure d sc_is_live_body rfl fun f cdv A outer s H E hr ds r hC B hB => ?_
  obtain ⟨b, hs, L, rfl, rfl, h1⟩ := hC
  refine w_ret (p_all rfl z.all rfl (PF3.p (pf_comp (SX := defScope s_is_live_body) (XN := ["body", "heads", "live"]) (N := ["symbol", "heads", "live"]) (nt := 1) (caps := [1, 2]) (pre := (fun i => ((b.take i).map fun x => decide (x ∈ L) || !decide (x ∈ hs)).map D.bl)) ⟨rfl, by decide +kernel, by decide +kernel, by decide +kernel, rfl, by decide +kernel⟩ (i_tup (p_var (i := 0) rfl (.inl rfl) rfl)) ?_ ?_ ?_))) ?_
  · intro i hi
    rw [List.length_map, List.length_map, List.length_take, sizeLine_eq]
    omega
  · rfl
  · intro c i d hd
    obtain ⟨x, hx, rfl⟩ := strsD_get hd
    refine ⟨_, (g_name (i := 0) (show List.Nodup (α := Str) ["symbol", "heads", "live"] by decide +kernel) rfl (.inl rfl)), (Sub.set rfl), .inl ⟨.bl (decide (x ∈ L) || !decide (x ∈ hs)), ts_nil, (p_eq (p_or (p_cmp (c_in hr.units (p_var (i := 0) rfl (.inl rfl) rfl) (p_var (i := 2) rfl (.inr (.inl rfl)) rfl) (.inl rfl) ?_)) fun _ => (p_one (p_cmp (c_notIn hr.units (p_var (i := 0) rfl (.inl rfl) rfl) (p_var (i := 1) rfl (.inr (.inl rfl)) rfl) (.inl rfl) ?_)))) ?_), ?_⟩⟩
    · exact strs_kin
    · exact strs_kin
    · rw [in_strs, in_strs]
    · dsimp only; rw [take_get hx, List.map_append, List.map_append]; rfl
  · rw [show (b.map D.str).length = b.length from List.length_map _, List.take_length]
    show D.bl ((b.map fun x => decide (x ∈ L) || !decide (x ∈ hs)).all id) = D.bl (okBody hs L b)
    rw [List.all_map]
    rfl
theorem ok_has_live_body (z : Zs mg) (d : DefK K mg "has_live_body" s_has_live_body ["head", "rules", "heads", "live"]) (o_is_live_body : OkF P w K mg base CX0 2 "is_live_body" ["body", "heads", "live"] (spP K 3 C_liveBody)) : OkF P w K mg base CX0 3 "has_live_body" ["head", "rules", "heads", "live"] (spP K 4 C_hasLive) := by
  refine ok_pure d sc_has_live_body rfl fun f cdv A outer s H E hr ds r hC B hB => ?_
  obtain ⟨h, rs, hs, L, rfl, rfl, h1, h2⟩ := hC
  refine w_ret (p_any rfl z.any rfl (PF3.p (pf_comp (SX := defScope s_has_live_body) (XN := ["head", "rules", "heads", "live"]) (N := ["rule", "head", "heads", "live"]) (nt := 1) (caps := [0, 2, 3]) (pre := (fun i => ((rs.take i).map fun r => decide (r.1 = h) && okBody hs L r.2.1).map D.bl)) ⟨rfl, by decide +kernel, by decide +kernel, by decide +kernel, rfl, by decide +kernel⟩ (i_list (p_var (i := 1) rfl (.inl rfl) rfl)) ?_ ?_ ?_))) ?_
  · intro i hi
    rw [List.length_map, List.length_map, List.length_take, sizeLine_eq]
    omega
  · rfl
  · intro c i d hd
    obtain ⟨r, hr', rfl⟩ := rulesD_get hd
    refine ⟨_, (g_name (i := 0) (show List.Nodup (α := Str) ["rule", "head", "heads", "live"] by decide +kernel) rfl (.inl rfl)), (Sub.set rfl), .inl ⟨.bl (decide (r.1 = h) && okBody hs L r.2.1), ts_nil, (p_and (p_cmp (c_eqS (p_ixT (p_var (i := 0) rfl (.inl rfl) rfl) p_int rfl) (p_var (i := 1) rfl (.inr (.inl rfl)) rfl))) fun _ => (p_one (p_call (d := .bl (okBody hs L r.2.1)) o_is_live_body (hr.mono (by decide)) rfl (pl_cons (p_ixT (p_var (i := 0) rfl (.inl rfl) rfl) p_int rfl) (pl_cons (p_var (i := 2) rfl (.inr (.inl rfl)) rfl) (pl_cons (p_var (i := 3) rfl (.inr (.inl rfl)) rfl) pl_nil))) ?_))), ?_⟩⟩
    · exact ⟨r.2.1, hs, L, rfl, rfl, h2 r (List.mem_of_getElem? hr')⟩
    · dsimp only; rw [take_get hr', List.map_append, List.map_append]; rfl
  · rw [rulesD_len, List.take_length]
    show D.bl ((rs.map fun r => decide (r.1 = h) && okBody hs L r.2.1).any id) = D.bl (hasBody rs hs L h)
    rw [List.any_map]
    rfl
theorem ok_live_of (z : Zs mg) (d : DefK K mg "live_of" s_live_of ["heads", "rules"]) (o_has_live_body : OkF P w K mg base CX0 3 "has_live_body" ["head", "rules", "heads", "live"] (spP K 4 C_hasLive)) : OkF P w K mg base CX0 4 "live_of" ["heads", "rules"] (spP K 2 C_liveOf) := by
  refine ok_pure d sc_live_of rfl fun f cdv A outer s H E hr ds r hC B hB => ?_
  obtain ⟨hs, rs, rfl, rfl, h1, h2, h3, h4⟩ := hC
  refine w_set (i := 2) sc_live_of.nd rfl (.inr rfl) (p_lst pl_nil) ?_
  refine w_set (i := 3) sc_live_of.nd rfl (.inl rfl) p_bl ?_
  refine w_while PassesOwn.never (fun Γ _ => ∃ (L : List Str) (b : Bool) (x : Option D), Γ = [some (.lst (strsD hs)), some (.lst (rulesD rs)), some (.lst (strsD L)), some (.bl b), x] ∧ ((b = true ∧ Stage hs rs L) ∨ (b = false ∧ L = liveL hs rs))) (fun Γ _ => match Γ with | [_, _, some (.lst ds), some (.bl b), _] => if b then hs.length + 1 - ds.length else 0 | _ => 0) ⟨[], true, none, rfl, .inl ⟨rfl, stage_nil⟩⟩ ?_
  rintro Γ Ω ⟨L, b, x, rfl, hb⟩
  refine ⟨_, (t_val (p_var (i := 3) rfl (.inl rfl) rfl)), fun hk => ?_, fun hk => ?_⟩
  · obtain ⟨rfl, st⟩ : b = true ∧ Stage hs rs L := hb.resolve_right fun h => by rw [h.1] at hk; cases hk
    refine w_setC (i := 4) (SX := defScope s_live_of) (XN := ["heads", "rules", "live", "grown", "found"]) (N := ["head", "heads", "rules", "live"]) (nt := 1) (caps := [0, 1, 2]) (pre := (fun i => strsD ((hs.take i).filter (hasBody rs hs L))))  ⟨rfl, by decide +kernel, by decide +kernel, by decide +kernel, rfl, by decide +kernel⟩ sc_live_of.nd rfl (.inl rfl)  (i_list (p_var (i := 0) rfl (.inr (.inl rfl)) rfl)) ?_ ?_ ?_ ?_
    · intro i hi
      rw [strsD_len, sizeLine_eq]
      have := List.length_filter_le (hasBody rs hs L) (hs.take i)
      rw [List.length_take] at this
      omega
    · rfl
    · intro c i d hd
      obtain ⟨h, hh, rfl⟩ := strsD_get hd
      cases q : hasBody rs hs L h with
      | true =>
        refine ⟨_, (g_name (i := 0) (show List.Nodup (α := Str) ["head", "heads", "rules", "live"] by decide +kernel) rfl (.inl rfl)), (Sub.set rfl), .inl ⟨.str h, (ts_one (t_val (p_call (d := .bl true) o_has_live_body (hr.mono (by decide)) rfl (pl_cons (p_var (i := 0) rfl (.inl rfl) rfl) (pl_cons (p_var (i := 2) rfl (.inr (.inl rfl)) rfl) (pl_cons (p_var (i := 1) rfl (.inr (.inl rfl)) rfl) (pl_cons (p_var (i := 3) rfl (.inr (.inl rfl)) rfl) pl_nil)))) ?_))), (p_var (i := 0) rfl (.inl rfl) rfl), ?_⟩⟩
        · exact ⟨h, rs, hs, L, rfl, by rw [q], h1, h4⟩
        · show strsD ((hs.take (i + 1)).filter (hasBody rs hs L)) = strsD ((hs.take i).filter (hasBody rs hs L)) ++ [D.str h]
          rw [take_get hh, List.filter_append, List.filter_cons_of_pos q]
          unfold strsD
          rw [List.map_append]
          rfl
      | false =>
        refine ⟨_, (g_name (i := 0) (show List.Nodup (α := Str) ["head", "heads", "rules", "live"] by decide +kernel) rfl (.inl rfl)), (Sub.set rfl), .inr ⟨(ts_one (t_val (p_call (d := .bl false) o_has_live_body (hr.mono (by decide)) rfl (pl_cons (p_var (i := 0) rfl (.inl rfl) rfl) (pl_cons (p_var (i := 2) rfl (.inr (.inl rfl)) rfl) (pl_cons (p_var (i := 1) rfl (.inr (.inl rfl)) rfl) (pl_cons (p_var (i := 3) rfl (.inr (.inl rfl)) rfl) pl_nil)))) ?_))), ?_⟩⟩
        · exact ⟨h, rs, hs, L, rfl, by rw [q], h1, h4⟩
        · show strsD ((hs.take (i + 1)).filter (hasBody rs hs L)) = strsD ((hs.take i).filter (hasBody rs hs L))
          rw [take_get hh, List.filter_append, List.filter_cons_of_neg (by simp [q])]
          simp
    rw [strsD_len, List.take_length]
    refine w_set (i := 3) sc_live_of.nd rfl (.inl rfl) (p_cmp (c_gt (p_lenL z.len rfl (p_var (i := 4) rfl (.inl rfl) rfl)) (p_lenL z.len rfl (p_var (i := 2) rfl (.inr (.inl rfl)) rfl)))) ?_
    refine w_set (i := 2) sc_live_of.nd rfl (.inr rfl) (p_var (i := 4) rfl (.inl rfl) rfl) ?_
    rw [strsD_len, strsD_len]
    show W3 _ B [] [some (.lst (strsD hs)), some (.lst (rulesD rs)), some (.lst (strsD (stepL hs rs L))), some (.bl (decide (((L.length : Nat) : Int) < ((stepL hs rs L).length : Nat)))), some (.lst (strsD (stepL hs rs L)))] Ω _
    have le := stage_le st
    have lh : (stepL hs rs L).length ≤ hs.length := List.length_filter_le _ _
    by_cases g : L.length < (stepL hs rs L).length
    · rw [decide_eq_true (by omega)]
      refine w_nil ⟨⟨_, true, _, rfl, .inl ⟨rfl, stage_step st⟩⟩, ?_⟩
      show (if true = true then hs.length + 1 - (strsD (stepL hs rs L)).length else 0) < if true = true then hs.length + 1 - (strsD L).length else 0
      rw [if_pos rfl, if_pos rfl, strsD_len, strsD_len]
      omega
    · rw [decide_eq_false (by omega)]
      refine w_nil ⟨⟨_, false, _, rfl, .inr ⟨rfl, stage_end st (by omega) h3⟩⟩, ?_⟩
      show (if false = true then hs.length + 1 - (strsD (stepL hs rs L)).length else 0) < if true = true then hs.length + 1 - (strsD L).length else 0
      rw [if_neg Bool.false_ne_true, if_pos rfl, strsD_len]
      omega
  · obtain ⟨_, rfl⟩ : b = false ∧ L = liveL hs rs := hb.resolve_left fun h => by rw [h.1] at hk; cases hk
    refine w_ret (p_var (i := 2) rfl (.inr (.inl rfl)) rfl) ?_
    rfl
end
end Law
set_option Elab.async false
set_option linter.all false
set_option maxRecDepth 100000
set_option maxHeartbeats 4000000
namespace Law
open PySem L2 L3
section
variable {P : Program} {w : World} {K : PySem.W.Frag} {mg : Str → Option Value} {base : Heap} {C_Grammar : Addr}
theorem ok_check_symbolX {A3 : Addr} (z : Zs mg) (c3 : ExCls K A3) (m3 : mg "NoGrammar" = some (.ref A3)) (g_MOST_LETTERS : GlobD K mg "MOST_LETTERS" (.int 8)) (d : DefK K mg "check_symbol" s_check_symbol ["text"]) (o_is_symbol : OkF P w K mg base CX0 3 "is_symbol" ["text"] (spP K 1 C_isSym)) : OkF P w K mg base (CXo P w) 4 "check_symbol" ["text"] (spX K 1 (C_symbolX A3)) := by
  refine ok_raises d sc_check_symbol rfl fun f cdv A outer s H E hr ds r hC B hB hE => ?_
  obtain ⟨rfl, x, rfl, tx, hn⟩ := hC
  have hl : x.length = x.cps.size := rfl
  have t1 := tx.1
  have t2 := txt_repr tx
  have e : isSymB x = false := isSymB_no hn
  refine w_if (t_not (t_val (p_call (d := .bl (isSymB x)) o_is_symbol (hr.mono (by decide)) rfl (pl_cons (p_var (i := 0) rfl (.inl rfl) rfl) pl_nil) ?_))) ?_ ?_
  · exact ⟨x, rfl, rfl, by omega, txt_ascii tx⟩
  · intro _
    exact w_raise rfl c3 rfl m3 (pl_cons (p_join2 (p_fvR (p_var (i := 0) rfl (.inl rfl) rfl) (by rw [sizeLine_eq]; omega)) p_str (by rw [sizeLine_eq]; exact Nat.le_trans (Nat.add_le_add_right t2 _) (by decide +kernel))) pl_nil) flies_o fun F σ H S => hE _ _ _ _ _ S
  · intro hk
    rw [e] at hk
    exact absurd hk (by decide)
theorem ok_check_ruleX {A3 : Addr} (z : Zs mg) (c3 : ExCls K A3) (m3 : mg "NoGrammar" = some (.ref A3)) (g_NOUGHT : GlobD K mg "NOUGHT" (sh 0)) (g_MOST_SYMBOLS : GlobD K mg "MOST_SYMBOLS" (.int 4)) (d : DefK K mg "check_rule" s_check_rule ["rule"]) (o_check_symbol : OkF P w K mg base CX0 4 "check_symbol" ["text"] (spP K 1 C_symbol)) (o_check_symbolX : OkF P w K mg base (CXo P w) 4 "check_symbol" ["text"] (spX K 1 (C_symbolX A3))) : OkF P w K mg base (CXo P w) 5 "check_rule" ["rule"] (spX K 1 (C_ruleX A3)) := by
  refine ok_raises d sc_check_rule rfl fun f cdv A outer s H E hr ds r hC B hB hE => ?_
  obtain ⟨rfl, r, rfl, tr, hn⟩ := hC
  by_cases h1 : IsSym r.1
  case neg => exact w_exprR (r_call o_check_symbolX (pass_o fun _ _ _ q => q) (hr.mono (by decide)) rfl (pl_cons (p_ixT (p_var (i := 0) rfl (.inl rfl) rfl) p_int rfl) pl_nil) ⟨rfl, r.1, rfl, tr.h, h1⟩ fun F σ H S => hE _ _ _ _ _ S)
  refine w_expr (p_call (d := .non) o_check_symbol (hr.mono (by decide)) rfl (pl_cons (p_ixT (p_var (i := 0) rfl (.inl rfl) rfl) p_int rfl) pl_nil) ?_) ?_
  · exact ⟨r.1, rfl, rfl, h1⟩
  refine w_if (PW3.t (tw_or (t_cmp (c_lt (p_lenT z.len rfl (p_ixT (p_var (i := 0) rfl (.inl rfl) rfl) p_int rfl)) p_int)) fun _ => (tw_or1 (t_cmp (c_gt (p_lenT z.len rfl (p_ixT (p_var (i := 0) rfl (.inl rfl) rfl) p_int rfl)) (p_globD g_MOST_SYMBOLS rfl)))))) ?_ ?_
  · intro _
    exact w_raise rfl c3 rfl m3 (pl_cons p_str pl_nil) flies_o fun F σ H S => hE _ _ _ _ _ S
  · intro hk
    rw [show (r.2.1.map D.str).length = r.2.1.length from List.length_map _, Bool.or_eq_false_iff, decide_eq_false_iff_not, decide_eq_false_iff_not] at hk
    refine w_nil ?_
    refine w_for PassesOwn.leaving rfl (i_tup (p_ixT (p_var (i := 0) rfl (.inl rfl) rfl) p_int rfl)) (fun i Γ Ω => (∀ x ∈ r.2.1.take i, IsSym x) ∧ ∃ x, Γ = [some (ruleD r), x] ∧ Ω = []) ⟨fun x hx => absurd hx (by simp), _, rfl, rfl⟩ ?_ ?_
    · rintro i d Γ Ω hd ⟨hp, x, rfl, rfl⟩
      obtain ⟨y, hy, rfl⟩ := strsD_get hd
      refine ⟨_, (g_name (i := 1) sc_check_rule.nd rfl (.inl rfl)), ?_⟩
      by_cases hy2 : IsSym y
      case neg => exact w_exprR (r_call o_check_symbolX (pass_o fun _ _ _ q => q) (hr.mono (by decide)) rfl (pl_cons (p_var (i := 1) rfl (.inl rfl) rfl) pl_nil) ⟨rfl, y, rfl, tr.b y (List.mem_of_getElem? hy), hy2⟩ fun F σ H S => hE _ _ _ _ _ S)
      refine w_expr (p_call (d := .non) o_check_symbol (hr.mono (by decide)) rfl (pl_cons (p_var (i := 1) rfl (.inl rfl) rfl) pl_nil) ?_) ?_
      · exact ⟨y, rfl, rfl, hy2⟩
      refine w_nil ⟨fun x hx => ?_, _, rfl, rfl⟩
      rw [take_get hy] at hx
      rcases List.mem_append.mp hx with q | q
      · exact hp x q
      · rw [List.mem_singleton.mp q]; exact hy2
    · rintro Γ Ω ⟨hp, x, rfl, rfl⟩
      rw [show (r.2.1.map D.str).length = r.2.1.length from List.length_map _, List.take_length] at hp
      refine w_if (t_cmp (c_eq hr.units (p_ixT (p_var (i := 0) rfl (.inl rfl) rfl) p_int rfl) (p_globD g_NOUGHT rfl) kin_sh dep_sh)) ?_ ?_
      · intro _
        exact w_raise rfl c3 rfl m3 (pl_cons p_str pl_nil) flies_o fun F σ H S => hE _ _ _ _ _ S
      · intro h0
        rw [beq_sh] at h0
        have h0 := of_decide_eq_false h0
        exact absurd ⟨h1, by omega, by omega, hp, Rat.lt_of_le_of_ne tr.n fun z => h0 z.symm⟩ hn
theorem ok_check_rulesX {A3 : Addr} (z : Zs mg) (c3 : ExCls K A3) (m3 : mg "NoGrammar" = some (.ref A3)) (g_MOST_RULES : GlobD K mg "MOST_RULES" (.int 30)) (d : DefK K mg "check_rules" s_check_rules ["rules"]) (o_check_rule : OkF P w K mg base CX0 5 "check_rule" ["rule"] (spP K 1 C_rule)) (o_check_ruleX : OkF P w K mg base (CXo P w) 5 "check_rule" ["rule"] (spX K 1 (C_ruleX A3))) : OkF P w K mg base (CXo P w) 6 "check_rules" ["rules"] (spX K 1 (C_rulesX A3)) := by
  refine ok_raises d sc_check_rules rfl fun f cdv A outer s H E hr ds r hC B hB hE => ?_
  obtain ⟨rfl, rs, rfl, h1, h3, hn⟩ := hC
  refine w_if (PW3.t (tw_or (t_cmp (c_lt (p_lenL z.len rfl (p_var (i := 0) rfl (.inl rfl) rfl)) p_int)) fun _ => (tw_or1 (t_cmp (c_gt (p_lenL z.len rfl (p_var (i := 0) rfl (.inl rfl) rfl)) (p_globD g_MOST_RULES rfl)))))) ?_ ?_
  · intro _
    exact w_raise rfl c3 rfl m3 (pl_cons p_str pl_nil) flies_o fun F σ H S => hE _ _ _ _ _ S
  · intro hk
    rw [rulesD_len, Bool.or_eq_false_iff, decide_eq_false_iff_not, decide_eq_false_iff_not] at hk
    refine w_nil ?_
    refine w_setV (i := 1) sc_check_rules.nd rfl (.inl rfl) (v_dnew fun l => ?_)
    refine w_for PassesOwn.leaving rfl (i_list (p_var (i := 0) rfl (.inl rfl) rfl)) (fun i Γ Ω => (∀ r ∈ rs.take i, RuleOk r) ∧ ((rs.take i).map fun r => (r.1, r.2.1)).Nodup ∧ ∃ x, Γ = [some (.lst (rulesD rs)), some (.raw (.ref l)), x] ∧ Ω = [(l, oDic P w K l (seenD (rs.take i)))]) ⟨fun r hr' => absurd hr' (by simp), List.nodup_nil, _, rfl, rfl⟩ ?_ ?_
    · rintro i d Γ Ω hd ⟨ok, nd, x, rfl, rfl⟩
      obtain ⟨r, hr', rfl⟩ := rulesD_get hd
      refine ⟨_, (g_name (i := 2) sc_check_rules.nd rfl (.inl rfl)), ?_⟩
      by_cases ro : RuleOk r
      case neg => exact w_exprR (r_call o_check_ruleX (pass_o fun _ _ _ q => q) (hr.mono (by decide)) rfl (pl_cons (p_var (i := 2) rfl (.inl rfl) rfl) pl_nil) ⟨rfl, r, rfl, h3 r (List.mem_of_getElem? hr'), ro⟩ fun F σ H S => hE _ _ _ _ _ S)
      refine w_expr (p_call (d := .non) o_check_rule (hr.mono (by decide)) rfl (pl_cons (p_var (i := 2) rfl (.inl rfl) rfl) pl_nil) ?_) ?_
      · exact ⟨r, rfl, rfl, ro⟩
      refine w_ifV (vt_inD hr.units (v_pure (p_tup (pl_cons (p_ixT (p_var (i := 2) rfl (.inl rfl) rfl) p_int rfl) (pl_cons (p_ixT (p_var (i := 2) rfl (.inl rfl) rfl) p_int rfl) pl_nil))) ⟨keyR r, keyR_eq r, v_pure (p_var (i := 1) rfl (.inl rfl) rfl) ⟨l, _, rfl, List.mem_singleton.mpr rfl, fun hk => ?_, fun hk => ?_⟩⟩))
      · exact w_raise rfl c3 rfl m3 (pl_cons p_str pl_nil) flies_o fun F σ H S => hE _ _ _ _ _ S
      · have hn2 : (r.1, r.2.1) ∉ (rs.take i).map fun r => (r.1, r.2.1) := fun q => by rw [seen_yes q] at hk; cases hk
        refine w_nil ?_
        refine w_setD hr.units (v_pure p_bl (v_pure (p_var (i := 1) rfl (.inl rfl) rfl) ⟨l, rfl, v_pure (p_tup (pl_cons (p_ixT (p_var (i := 2) rfl (.inl rfl) rfl) p_int rfl) (pl_cons (p_ixT (p_var (i := 2) rfl (.inl rfl) rfl) p_int rfl) pl_nil))) ⟨keyR r, _, [], keyR_eq r, List.Perm.refl _, ?_, ?_⟩⟩))
        · unfold seenD
          rw [List.length_map, List.length_take, sizeLine_eq]
          omega
        · refine w_nil ⟨fun q hq => ?_, ?_, _, rfl, ?_⟩
          · rw [take_get hr'] at hq
            rcases List.mem_append.mp hq with y | y
            · exact ok q y
            · rw [List.mem_singleton.mp y]; exact ro
          · rw [take_get hr', List.map_append, List.nodup_append]
            exact ⟨nd, by simp, fun a ha b hb e => hn2 (by have hb' : b = (r.1, r.2.1) := List.mem_singleton.mp hb; rw [← hb', ← e]; exact ha)⟩
          · rw [seen_put hn2, take_get hr']
            rfl
    · rintro Γ Ω ⟨ok, nd, x, rfl, rfl⟩
      rw [rulesD_len, List.take_length] at ok nd
      exact absurd ⟨by omega, by omega, ok, nd⟩ hn
theorem ok_check_startX {A3 : Addr} (c3 : ExCls K A3) (m3 : mg "NoGrammar" = some (.ref A3)) (d : DefK K mg "check_start" s_check_start ["start", "heads"])  : OkF P w K mg base (CXo P w) 2 "check_start" ["start", "heads"] (spX K 2 (C_startX A3)) := by
  refine ok_raises d sc_check_start rfl fun f cdv A outer s H E hr ds r hC B hB hE => ?_
  obtain ⟨rfl, x, hs, rfl, tx, hx⟩ := hC
  have t2 := txt_repr tx
  refine w_if (t_cmp (c_notIn hr.units (p_var (i := 0) rfl (.inl rfl) rfl) (p_var (i := 1) rfl (.inl rfl) rfl) (.inl rfl) ?_)) ?_ ?_
  · exact strs_kin
  · intro _
    exact w_raise rfl c3 rfl m3 (pl_cons (p_join3 p_str (p_fvR (p_var (i := 0) rfl (.inl rfl) rfl) (by rw [sizeLine_eq]; omega)) p_str (by rw [sizeLine_eq]; exact Nat.le_trans (Nat.add_le_add_right (Nat.add_le_add_left t2 _) _) (by decide +kernel))) pl_nil) flies_o fun F σ H S => hE _ _ _ _ _ S
  · intro hk
    rw [in_strs, decide_eq_false hx] at hk
    cases hk
theorem ok_check_sumsX {A3 : Addr} (c3 : ExCls K A3) (m3 : mg "NoGrammar" = some (.ref A3)) (g_NOUGHT : GlobD K mg "NOUGHT" (sh 0)) (g_ONE : GlobD K mg "ONE" (sh 1)) (d : DefK K mg "check_sums" s_check_sums ["heads", "rules"]) (o_added : OkF P w K mg base CX0 33 "added" ["one", "other"] (spP K 2 C_added)) : OkF P w K mg base (CXo P w) 34 "check_sums" ["heads", "rules"] (spX K 2 (C_sumsX A3)) := by
  refine ok_raises d sc_check_sums rfl fun f cdv A outer s H E hr ds r hC B hB hE => ?_
  obtain ⟨rfl, hs, rs, rfl, h1, h3, ht3, hn⟩ := hC
  refine w_for PassesOwn.leaving rfl (i_list (p_var (i := 0) rfl (.inl rfl) rfl)) (fun i Γ Ω => (∀ h ∈ hs.take i, sumOf h rs = 1) ∧ ∃ x2 x3 x4, Γ = [some (.lst (strsD hs)), some (.lst (rulesD rs)), x2, x3, x4] ∧ Ω = []) ⟨fun h hh => absurd hh (by simp), _, _, _, rfl, rfl⟩ ?_ ?_
  · rintro i d Γ Ω hd ⟨hp, x2, x3, x4, rfl, rfl⟩
    obtain ⟨h, hh, rfl⟩ := strsD_get hd
    have th := (ht3 h (List.mem_of_getElem? hh)).1
    refine ⟨_, (g_name (i := 2) sc_check_sums.nd rfl (.inl rfl)), ?_⟩
    refine w_set (i := 3) sc_check_sums.nd rfl (.inl rfl) (p_globD g_NOUGHT rfl) ?_
    refine w_for PassesOwn.leaving rfl (i_list (p_var (i := 1) rfl (.inl rfl) rfl)) (fun j Γ Ω => ∃ (t : Rat) (x4 : Option D), (0 ≤ t ∧ Sz (1 + j * 1001) t) ∧ t = sumOf h (rs.take j) ∧ Γ = [some (.lst (strsD hs)), some (.lst (rulesD rs)), some (.str h), some (sh t), x4] ∧ Ω = []) ⟨0, _, ⟨by decide, sz_0⟩, rfl, rfl, rfl⟩ ?_ ?_
    · rintro j d Γ Ω hd ⟨t, x4, ht, et, rfl, rfl⟩
      obtain ⟨r, hr', rfl⟩ := rulesD_get hd
      have hj : j < rs.length := (List.getElem?_eq_some_iff.mp hr').1
      have hq := h3 r (List.mem_of_getElem? hr')
      have ef : sumOf h (rs.take (j + 1)) = addIf h t r := by rw [take_get hr']; unfold sumOf at et ⊢; rw [List.foldl_append, ← et]; rfl
      have ht' := sz_sumI ht hq
      refine ⟨_, (g_name (i := 4) sc_check_sums.nd rfl (.inl rfl)), ?_⟩
      refine w_if (t_cmp (c_eqS (p_ixT (p_var (i := 4) rfl (.inl rfl) rfl) p_int rfl) (p_var (i := 2) rfl (.inl rfl) rfl))) ?_ ?_
      · intro hk
        have hk := of_decide_eq_true hk
        refine w_set (i := 3) sc_check_sums.nd rfl (.inl rfl) (p_call (d := sh (t + r.2.2)) o_added (hr.mono (by decide)) rfl (pl_cons (p_var (i := 3) rfl (.inl rfl) rfl) (pl_cons (p_ixT (p_var (i := 4) rfl (.inl rfl) rfl) p_int rfl) pl_nil)) ?_) ?_
        · exact ⟨t, r.2.2, 1 + j * 1001, 1000, rfl, rfl, ht.1, hq.1, ht.2, hq.2, by have : big = 67108864 := rfl; omega, by decide, trivial⟩
        exact w_nil (w_nil ⟨_, _, ht', by rw [ef]; exact (if_pos hk).symm, rfl, rfl⟩)
      · intro hk
        have hk := of_decide_eq_false hk
        exact w_nil (w_nil ⟨t, _, ⟨ht.1, ht.2.mono (by omega)⟩, by rw [ef]; exact (if_neg hk).symm, rfl, rfl⟩)
    · rintro Γ Ω ⟨t, x4, ht, et, rfl, rfl⟩
      rw [rulesD_len, List.take_length] at et
      refine w_if (t_cmp (c_ne hr.units (p_var (i := 3) rfl (.inl rfl) rfl) (p_globD g_ONE rfl) kin_sh dep_sh)) ?_ ?_
      · intro _
        exact w_raise rfl c3 rfl m3 (pl_cons (p_join3 p_str (p_fv (p_var (i := 2) rfl (.inl rfl) rfl) (by rw [sizeLine_eq]; omega)) p_str (by rw [sizeLine_eq]; exact Nat.le_trans (Nat.add_le_add_right (Nat.add_le_add_left th _) _) (by decide +kernel))) pl_nil) flies_o fun F σ H S => hE _ _ _ _ _ S
      · intro hk
        rw [beq_sh] at hk
        have e1 : t = 1 := by simpa using hk
        refine w_nil (w_nil ⟨fun g hg => ?_, _, _, _, rfl, rfl⟩)
        rw [take_get hh] at hg
        rcases List.mem_append.mp hg with q | q
        · exact hp g q
        · rw [List.mem_singleton.mp q, ← et]; exact e1
  · rintro Γ Ω ⟨hp, x2, x3, x4, rfl, rfl⟩
    rw [strsD_len, List.take_length] at hp
    exact absurd hp hn
theorem ok_GrammarX {A3 : Addr} (z : Zs mg) (c_Grammar : ClsG K C_Grammar) (d : InitK K mg "Grammar" C_Grammar "Grammar.__init__" s_Grammar___init__ ["self", "start", "rules"]) (o_check_rules : OkF P w K mg base CX0 6 "check_rules" ["rules"] (spP K 1 C_rules)) (o_check_rulesX : OkF P w K mg base (CXo P w) 6 "check_rules" ["rules"] (spX K 1 (C_rulesX A3))) (o_heads_of : OkF P w K mg base CX0 2 "heads_of" ["rules"] (spP K 1 C_heads)) (o_check_start : OkF P w K mg base CX0 2 "check_start" ["start", "heads"] (spP K 2 C_start)) (o_check_startX : OkF P w K mg base (CXo P w) 2 "check_start" ["start", "heads"] (spX K 2 (C_startX A3))) (o_check_sumsX : OkF P w K mg base (CXo P w) 34 "check_sums" ["heads", "rules"] (spX K 2 (C_sumsX A3))) :
    OkI P w K mg base (CXo P w) 36 "Grammar" C_Grammar ["self", "start", "rules"] (spIX K 3 C_Grammar (C_makesX A3)) := by
  refine oi_raises d sc_Grammar___init__ rfl fun f cdv A outer s H E hr a ds r hC B hB hE => ?_
  obtain ⟨rfl, st, rs, rfl, tst, hl, tr, hn⟩ := hC
  by_cases gr : GoodRs rs
  case neg => exact w_exprR (r_call o_check_rulesX (pass_o fun _ _ _ q => q) (hr.mono (by decide)) rfl (pl_cons (p_var (i := 2) rfl (.inl rfl) rfl) pl_nil) ⟨rfl, rs, rfl, hl, tr, gr⟩ fun F σ H S => hE _ _ _ _ _ S)
  refine w_expr (p_call (d := .non) o_check_rules (hr.mono (by decide)) rfl (pl_cons (p_var (i := 2) rfl (.inl rfl) rfl) pl_nil) ?_) ?_
  · exact ⟨rs, rfl, rfl, gr.l1, gr.l2, gr.ok, gr.nd⟩
  refine w_setF (a := a) (p_var (i := 0) rfl (.inl rfl) rfl) c_Grammar.c c_Grammar.n_first (v_pure (p_var (i := 1) rfl (.inl rfl) rfl) ⟨[], [], [], List.Perm.refl _, by simp, by decide, ?_⟩)
  refine w_setF (a := a) (p_var (i := 0) rfl (.inl rfl) rfl) c_Grammar.c c_Grammar.n_kept_rules (v_pure (PF3.p (pf_list z.list rfl (p_var (i := 2) rfl (.inl rfl) rfl) (.inl rfl))) ⟨_, _, [], List.Perm.refl _, by decide, by decide, ?_⟩)
  refine w_setF (a := a) (p_var (i := 0) rfl (.inl rfl) rfl) c_Grammar.c c_Grammar.n_kept_heads (v_pure (p_call (d := .lst (strsD (firsts rs))) o_heads_of (hr.mono (by decide)) rfl (pl_cons (p_var (i := 2) rfl (.inl rfl) rfl) pl_nil) ⟨rs, rfl, rfl, gr.l2⟩) ⟨_, _, [], List.Perm.refl _, by decide, by decide, ?_⟩)
  by_cases sf : st ∈ firsts rs
  case neg => exact w_exprR (r_callL (Γ' := [some (.obj C_Grammar ["first", "kept_rules", "kept_heads"] [.str st, .lst (rulesD rs), .lst (strsD (firsts rs))]), some (.str st), some (.lst (rulesD rs))]) o_check_startX (pass_o fun _ _ _ q => q) (hr.mono (by decide)) rfl (pl_cons (p_var (i := 1) rfl (.inl rfl) rfl) (pl_cons (p_fld (p_var (i := 0) rfl (.inl rfl) rfl) c_Grammar.c c_Grammar.n_kept_heads rfl) pl_nil)) ⟨rfl, st, firsts rs, rfl, tst, sf⟩ (lent_set (i := 0) lent_refl rfl (List.mem_singleton.mpr rfl) lends_ins) fun F σ H S => hE _ _ _ _ _ S)
  refine w_exprV (v_lend (L := true) (d := .non) (Γ' := [some (.obj C_Grammar ["first", "kept_rules", "kept_heads"] [.str st, .lst (rulesD rs), .lst (strsD (firsts rs))]), some (.str st), some (.lst (rulesD rs))]) (p_call o_check_start (hr.mono (by decide)) rfl (pl_cons (p_var (i := 1) rfl (.inl rfl) rfl) (pl_cons (p_fld (p_var (i := 0) rfl (.inl rfl) rfl) c_Grammar.c c_Grammar.n_kept_heads rfl) pl_nil)) ⟨st, firsts rs, rfl, rfl, sf⟩) (lent_set (i := 0) lent_refl rfl (List.mem_singleton.mpr rfl) lends_ins) (hard_cons hard_ins hard_nil) rfl ?_)
  exact w_exprR (r_callL (Γ' := [some (.obj C_Grammar ["first", "kept_rules", "kept_heads"] [.str st, .lst (rulesD rs), .lst (strsD (firsts rs))]), some (.str st), some (.lst (rulesD rs))]) o_check_sumsX (pass_o fun _ _ _ q => q) (hr.mono (by decide)) rfl (pl_cons (p_fld (p_var (i := 0) rfl (.inl rfl) rfl) c_Grammar.c c_Grammar.n_kept_heads rfl) (pl_cons (p_var (i := 2) rfl (.inl rfl) rfl) pl_nil)) ⟨rfl, firsts rs, rs, rfl, gr.l2, fun r hr' => ⟨(tr r hr').n, (tr r hr').s⟩, firsts_txt tr, fun q => hn ⟨gr, sf, q⟩⟩ (lent_set (i := 0) lent_refl rfl (List.mem_singleton.mpr rfl) lends_ins) fun F σ H S => hE _ _ _ _ _ S)
theorem ok_Grammar (z : Zs mg) (c_Grammar : ClsG K C_Grammar) (d : InitK K mg "Grammar" C_Grammar "Grammar.__init__" s_Grammar___init__ ["self", "start", "rules"]) (o_check_rules : OkF P w K mg base CX0 6 "check_rules" ["rules"] (spP K 1 C_rules)) (o_heads_of : OkF P w K mg base CX0 2 "heads_of" ["rules"] (spP K 1 C_heads)) (o_check_start : OkF P w K mg base CX0 2 "check_start" ["start", "heads"] (spP K 2 C_start)) (o_check_sums : OkF P w K mg base CX0 34 "check_sums" ["heads", "rules"] (spP K 2 C_sums)) (o_live_of : OkF P w K mg base CX0 4 "live_of" ["heads", "rules"] (spP K 2 C_liveOf)) : OkI P w K mg base CX0 36 "Grammar" C_Grammar ["self", "start", "rules"] (spI K 3 C_Grammar C_makes) := by
  refine oi_init d sc_Grammar___init__ rfl fun f cdv A outer s H E hr a ds r hC B hB => ?_
  obtain ⟨st, rs, rfl, rfl, gv⟩ := hC
  have l2 := gv.l2
  have fl := firsts_len (rs := rs)
  refine w_expr (p_call (d := .non) o_check_rules (hr.mono (by decide)) rfl (pl_cons (p_var (i := 2) rfl (.inl rfl) rfl) pl_nil) ?_) ?_
  · exact ⟨rs, rfl, rfl, gv.l1, gv.l2, gv.ok, gv.nd⟩
  refine w_setF (a := a) (p_var (i := 0) rfl (.inl rfl) rfl) c_Grammar.c c_Grammar.n_first (v_pure (p_var (i := 1) rfl (.inl rfl) rfl) ⟨[], [], [], List.Perm.refl _, by simp, by decide, ?_⟩)
  refine w_setF (a := a) (p_var (i := 0) rfl (.inl rfl) rfl) c_Grammar.c c_Grammar.n_kept_rules (v_pure (PF3.p (pf_list z.list rfl (p_var (i := 2) rfl (.inl rfl) rfl) (.inl rfl))) ⟨_, _, [], List.Perm.refl _, by decide, by decide, ?_⟩)
  refine w_setF (a := a) (p_var (i := 0) rfl (.inl rfl) rfl) c_Grammar.c c_Grammar.n_kept_heads (v_pure (p_call (d := .lst (strsD (firsts rs))) o_heads_of (hr.mono (by decide)) rfl (pl_cons (p_var (i := 2) rfl (.inl rfl) rfl) pl_nil) ⟨rs, rfl, rfl, gv.l2⟩) ⟨_, _, [], List.Perm.refl _, by decide, by decide, ?_⟩)
  refine w_exprV (v_lend (L := true) (d := .non) (Γ' := [some (.obj C_Grammar ["first", "kept_rules", "kept_heads"] [.str st, .lst (rulesD rs), .lst (strsD (firsts rs))]), some (.str st), some (.lst (rulesD rs))]) (p_call o_check_start (hr.mono (by decide)) rfl (pl_cons (p_var (i := 1) rfl (.inl rfl) rfl) (pl_cons (p_fld (p_var (i := 0) rfl (.inl rfl) rfl) c_Grammar.c c_Grammar.n_kept_heads rfl) pl_nil)) ⟨st, firsts rs, rfl, rfl, gv.st⟩) (lent_set (i := 0) lent_refl rfl (List.mem_singleton.mpr rfl) lends_ins) (hard_cons hard_ins hard_nil) rfl ?_)
  refine w_exprV (v_lend (L := true) (d := .non) (Γ' := [some (.obj C_Grammar ["first", "kept_rules", "kept_heads"] [.str st, .lst (rulesD rs), .lst (strsD (firsts rs))]), some (.str st), some (.lst (rulesD rs))]) (p_call o_check_sums (hr.mono (by decide)) rfl (pl_cons (p_fld (p_var (i := 0) rfl (.inl rfl) rfl) c_Grammar.c c_Grammar.n_kept_heads rfl) (pl_cons (p_var (i := 2) rfl (.inl rfl) rfl) pl_nil)) ⟨firsts rs, rs, rfl, rfl, gv.l2, gv.one, fun r hr' => ⟨Rat.le_of_lt (gv.ok r hr').2.2.2.2, gv.sz r hr'⟩⟩) (lent_set (i := 0) lent_refl rfl (List.mem_singleton.mpr rfl) lends_ins) (hard_cons hard_ins hard_nil) rfl ?_)
  refine w_setF (a := a) (p_var (i := 0) rfl (.inl rfl) rfl) c_Grammar.c c_Grammar.n_kept_live (v_lend (L := true) (d := .lst (strsD (liveL (firsts rs) rs))) (Γ' := [some (.obj C_Grammar ["first", "kept_rules", "kept_heads"] [.str st, .lst (rulesD rs), .lst (strsD (firsts rs))]), some (.str st), some (.lst (rulesD rs))]) (p_call o_live_of (hr.mono (by decide)) rfl (pl_cons (p_fld (p_var (i := 0) rfl (.inl rfl) rfl) c_Grammar.c c_Grammar.n_kept_heads rfl) (pl_cons (p_var (i := 2) rfl (.inl rfl) rfl) pl_nil)) ⟨firsts rs, rs, rfl, rfl, gv.l2, by omega, fun r hr' => mem_firsts.mpr (List.mem_map.mpr ⟨r, hr', rfl⟩), fun r hr' => (gv.ok r hr').2.2.1⟩) (lent_set (i := 0) lent_refl rfl (List.mem_singleton.mpr rfl) lends_ins) (hard_cons hard_ins hard_nil) solid_lstrs ⟨_, _, [], List.Perm.refl _, by decide, by decide, ?_⟩)
  exact w_nil rfl
end
end Law
set_option Elab.async false
set_option linter.all false
set_option maxRecDepth 100000
set_option maxHeartbeats 4000000
namespace Law
open PySem L2 L3
section
variable {P : Program} {w : World} {K : PySem.W.Frag} {mg : Str → Option Value} {base : Heap} {C_Grammar : Addr}
theorem ok_is_number (z : Zs mg) (g_MOST_FIGURES : GlobD K mg "MOST_FIGURES" (.int 60)) (d : DefK K mg "is_number" s_is_number ["text"])  : OkF P w K mg base CX0 2 "is_number" ["text"] (spP K 1 C_isNum) := by
  refine ok_pure d sc_is_number rfl fun f cdv A outer s H E hr ds r hC B hB => ?_
  obtain ⟨m, rfl, rfl, h1, h2⟩ := hC
  have hl := num_len h2
  have el : (numS m).length = (numS m).cps.size := rfl
  obtain ⟨c, rest, e, hc⟩ := num_head h1
  have l1 : (numS m).length = rest.length + 1 := by rw [el, ← Array.length_toList, e]; rfl
  refine w_if (PW3.t (tw_or (t_cmp (c_lt (p_lenS z.len rfl (p_var (i := 0) rfl (.inl rfl) rfl) ?_) p_int)) fun _ => (tw_or (t_cmp (c_gt (p_lenS z.len rfl (p_var (i := 0) rfl (.inl rfl) rfl) ?_) (p_globD g_MOST_FIGURES rfl))) fun _ => (tw_or1 (t_cmp (c_eqS (p_ixS (c := c) (p_var (i := 0) rfl (.inl rfl) rfl) p_int ?_ ?_) p_str)))))) ?_ ?_
  · rw [sizeLine_eq]; omega
  · rw [sizeLine_eq]; omega
  · rw [sizeLine_eq]; omega
  · exact atI_nat (j := 0) (by rw [e]; rfl)
  · intro hk
    exfalso
    have e0 : decide ((⟨#[c]⟩ : Str) = "0") = false := decide_eq_false fun z => hc (one_eq z (by decide +kernel))
    rw [e0, Bool.or_false, Bool.or_eq_true, decide_eq_true_eq, decide_eq_true_eq] at hk
    omega
  intro _
  refine w_nil ?_
  refine w_ret (p_all rfl z.all rfl (PF3.p (pf_comp (SX := defScope s_is_number) (XN := ["text"]) (N := ["sign"]) (nt := 1) (caps := []) (pre := (fun i => (((numS m).cps.toList.take i).map isDig).map D.bl)) ⟨rfl, by decide +kernel, by decide +kernel, by decide +kernel, rfl, by decide +kernel⟩ (i_text (p_var (i := 0) rfl (.inl rfl) rfl) ?_) ?_ ?_ ?_))) ?_
  · refine Array.all_eq_true_iff_forall_mem.mpr fun c hc => ?_
    have := num_dig (m := m) (c := c) (by simpa using hc)
    simp
    omega
  · intro i hi
    rw [List.length_map, List.length_map, List.length_take, Array.length_toList, ← el, sizeLine_eq]
    omega
  · rfl
  · intro c i d hd
    obtain ⟨n, hn, rfl⟩ := signs_get hd
    refine ⟨_, (g_name (i := 0) (show List.Nodup (α := Str) ["sign"] by decide +kernel) rfl (.inl rfl)), (Sub.set rfl), .inl ⟨.bl (isDig n), ts_nil, (p_eq (p_chainS p_str (p_var (i := 0) rfl (.inl rfl) rfl) p_str) ?_), ?_⟩⟩
    · show D.bl (leS "0" ⟨#[n]⟩ && leS ⟨#[n]⟩ "9") = D.bl (isDig n)
      rw [leS_l (n := 48) (by decide +kernel), leS_r (n := 57) (by decide +kernel)]
      rfl
    · dsimp only; rw [take_get hn, List.map_append, List.map_append]; rfl
  · show D.bl _ = D.bl true
    congr 1
    rw [List.all_map, List.all_eq_true]
    intro c hc
    exact isDig_of (num_dig (List.mem_of_mem_take hc))
theorem ok_read_share (z : Zs mg) (d : DefK K mg "read_share" s_read_share ["text"]) (o_is_number : OkF P w K mg base CX0 2 "is_number" ["text"] (spP K 1 C_isNum)) (o_share : OkF P w K mg base CX0 33 "share" ["top", "bottom"] (spP K 2 C_share)) : OkF P w K mg base CX0 34 "read_share" ["text"] (spP K 1 C_readShare) := by
  refine ok_pure d sc_read_share rfl fun f cdv A outer s H E hr ds r hC B hB => ?_
  obtain ⟨q, rfl, rfl, h0, h1, h2⟩ := hC
  obtain ⟨n1, n2, n3⟩ := num_nat h0 h1
  have hu := hr.units
  have l1 := num_len n2
  have l2 := num_len h2
  have ld : 1 ≤ q.den := q.den_pos
  refine w_set (i := 1) sc_read_share.nd rfl (.inl rfl) (p_split (p_var (i := 0) rfl (.inl rfl) rfl) p_str (by decide +kernel) ?_) ?_
  · have := shS_len' h0 h1 h2; rw [sizeLine_eq]; omega
  rw [sh_split]
  refine w_if (PW3.t (tw_or (t_cmp (c_neI (p_lenL z.len rfl (p_var (i := 1) rfl (.inl rfl) rfl)) p_int)) fun _ => (tw_or (t_not (t_val (p_call (d := .bl true) o_is_number (hr.mono (by decide)) rfl (pl_cons (p_ixL (d := .str (numS q.num.toNat)) (p_var (i := 1) rfl (.inl rfl) rfl) p_int ?_) pl_nil) ?_))) fun _ => (tw_or1 (t_not (t_val (p_call (d := .bl true) o_is_number (hr.mono (by decide)) rfl (pl_cons (p_ixL (d := .str (numS q.den)) (p_var (i := 1) rfl (.inl rfl) rfl) p_int ?_) pl_nil) ?_))))))) ?_ ?_
  · exact atI_nat (j := 0) rfl
  · exact ⟨_, rfl, rfl, n1, n2⟩
  · exact atI_nat (j := 1) rfl
  · exact ⟨_, rfl, rfl, ld, h2⟩
  · intro hk; simp at hk
  intro _
  refine w_nil ?_
  refine w_set (i := 2) sc_read_share.nd rfl (.inl rfl) (p_tup (pl_cons (p_intS (n := q.num) z.int rfl (p_ixL (d := .str (numS q.num.toNat)) (p_var (i := 1) rfl (.inl rfl) rfl) p_int ?_) ?_ ?_) (pl_cons (p_intS (n := (q.den : Int)) z.int rfl (p_ixL (d := .str (numS q.den)) (p_var (i := 1) rfl (.inl rfl) rfl) p_int ?_) ?_ ?_) pl_nil))) ?_
  · exact atI_nat (j := 0) rfl
  · rw [← n3]; exact num_read n1 n2
  · omega
  · exact atI_nat (j := 1) rfl
  · exact num_read ld h2
  · omega
  have np := My.q_num_pos h0
  have dp := My.den_pos' q
  refine w_if (t_cmp (c_ne hr.units (p_call (d := sh q) o_share (hr.mono (by decide)) rfl (pl_cons (p_ixT (p_var (i := 2) rfl (.inl rfl) rfl) p_int rfl) (pl_cons (p_ixT (p_var (i := 2) rfl (.inl rfl) rfl) p_int rfl) pl_nil)) ?_) (p_var (i := 2) rfl (.inl rfl) rfl) kin_sh dep_sh)) ?_ ?_
  · exact ⟨q.num, q.den, rfl, by rw [Rat.num_divInt_den], Int.le_of_lt np, dp⟩
  · intro hk
    exfalso
    rw [show D.tup [D.int q.num, D.int (q.den : Int)] = sh q from rfl, beqD_refl pln_sh] at hk
    exact absurd hk (by decide)
  intro _
  refine w_nil ?_
  refine w_ret (p_var (i := 2) rfl (.inl rfl) rfl) ?_
  rfl
theorem ok_read_rule (z : Zs mg) (g_MOST_SYMBOLS : GlobD K mg "MOST_SYMBOLS" (.int 4)) (d : DefK K mg "read_rule" s_read_rule ["row"]) (o_is_symbol : OkF P w K mg base CX0 3 "is_symbol" ["text"] (spP K 1 C_isSym)) (o_read_share : OkF P w K mg base CX0 34 "read_share" ["text"] (spP K 1 C_readShare)) : OkF P w K mg base CX0 35 "read_rule" ["row"] (spP K 1 C_readRule) := by
  refine ok_pure d sc_read_rule rfl fun f cdv A outer s H E hr ds r hC B hB => ?_
  obtain ⟨r, rfl, rfl, ok⟩ := hC
  have hl := row_len ok
  have b0 := ok.b0
  have b4 := ok.b4
  refine w_set (i := 1) sc_read_rule.nd rfl (.inl rfl) (p_split (p_var (i := 0) rfl (.inl rfl) rfl) p_str (by decide +kernel) ?_) ?_
  · rw [sizeLine_eq]; omega
  rw [row_split ok]
  refine w_if (PW3.t (tw_or (t_cmp (c_lt (p_lenL z.len rfl (p_var (i := 1) rfl (.inl rfl) rfl)) p_int)) fun _ => (tw_or1 (t_cmp (c_gt (p_lenL z.len rfl (p_var (i := 1) rfl (.inl rfl) rfl)) (p_add p_int (p_globD g_MOST_SYMBOLS rfl))))))) ?_ ?_
  · intro hk
    exfalso
    rw [Bool.or_eq_true, decide_eq_true_eq, decide_eq_true_eq] at hk
    have e : (List.map D.str (r.1 :: (shS r.2.2 ++ ":") :: r.2.1)).length = r.2.1.length + 2 := by simp
    rw [e] at hk
    omega
  intro _
  refine w_nil ?_
  have c1 : cutD (List.map D.str (r.1 :: (shS r.2.2 ++ ":") :: r.2.1)) none (some 1) = [.str r.1] := cut_take (k := 1) (by simp)
  have c2 : cutD (List.map D.str (r.1 :: (shS r.2.2 ++ ":") :: r.2.1)) (some 2) none = r.2.1.map D.str := cut_drop (k := 2) (by simp)
  refine w_if (PW3.t (tw_or (t_not (t_val (p_all rfl z.all rfl (PF3.p (pf_comp (SX := defScope s_read_rule) (XN := ["row", "words"]) (N := ["word"]) (nt := 1) (caps := []) (pre := (fun i => (((r.1 :: r.2.1).take i).map fun _ => true).map D.bl)) ⟨rfl, by decide +kernel, by decide +kernel, by decide +kernel, rfl, by decide +kernel⟩ (i_list (p_cat (PF3.p (pf_slice (p_var (i := 1) rfl (.inl rfl) rfl) o_none (o_some p_int))) (PF3.p (pf_slice (p_var (i := 1) rfl (.inl rfl) rfl) (o_some p_int) o_none)) ?_)) ?_ ?_ ?_))))) fun _ => (tw_or1 (t_not (t_val (p_ends (p_ixL (d := .str (shS r.2.2 ++ ":")) (p_var (i := 1) rfl (.inl rfl) rfl) p_int ?_) p_str)))))) ?_ ?_
  · rw [c1, c2, List.length_map, sizeLine_eq, List.length_singleton]; omega
  · intro i hi
    rw [List.length_map, List.length_map, List.length_take, List.length_cons, sizeLine_eq]
    omega
  · rfl
  · rw [c1, c2]
    intro c i d hd
    have hd' : ((r.1 :: r.2.1).map D.str)[i]? = some d := hd
    rw [List.getElem?_map] at hd'
    obtain ⟨x, hx, rfl⟩ := Option.map_eq_some_iff.mp hd'
    have sx : IsSym x := by
      rcases List.mem_cons.mp (List.mem_of_getElem? hx) with e | e
      · rw [e]; exact ok.h
      · exact ok.b x e
    refine ⟨_, (g_name (i := 0) (show List.Nodup (α := Str) ["word"] by decide +kernel) rfl (.inl rfl)), (Sub.set rfl), .inl ⟨.bl true, ts_nil, (p_call (d := .bl true) o_is_symbol (hr.mono (by decide)) rfl (pl_cons (p_var (i := 0) rfl (.inl rfl) rfl) pl_nil) ?_), ?_⟩⟩
    · exact ⟨x, rfl, by rw [isSymB_iff.mpr sx], by have := sx.2.1; omega, sym_ascii sx⟩
    · dsimp only; rw [take_get hx, List.map_append, List.map_append]; rfl
  · exact atI_nat (j := 1) rfl
  · intro hk
    exfalso
    rw [all_true, PySem.W.KT.ends_app] at hk
    exact absurd hk (by decide)
  intro _
  refine w_nil ?_
  refine w_ret (p_tup (pl_cons (p_ixL (d := .str r.1) (p_var (i := 1) rfl (.inl rfl) rfl) p_int ?_) (pl_cons (p_tupleOf z.tuple rfl (PF3.p (pf_slice (p_var (i := 1) rfl (.inl rfl) rfl) (o_some p_int) o_none)) (.inl rfl)) (pl_cons (p_call (d := sh r.2.2) o_read_share (hr.mono (by decide)) rfl (pl_cons (p_sliceS (p_ixL (d := .str (shS r.2.2 ++ ":")) (p_var (i := 1) rfl (.inl rfl) rfl) p_int ?_) o_none (o_some (p_neg p_int)) ?_) pl_nil) ?_) pl_nil)))) ?_
  · exact atI_nat (j := 0) rfl
  · exact atI_nat (j := 1) rfl
  · have := shS_len ok
    rw [show (shS r.2.2 ++ (":" : Str)).length = (shS r.2.2).length + (":" : Str).length from len_app, show (":" : Str).length = 1 by decide +kernel, sizeLine_eq]
    omega
  · rw [colon_eq, slice_last]
    exact ⟨_, rfl, rfl, ok.q, ok.n, ok.d⟩
  · rw [c2]; rfl
theorem ok_read_start (z : Zs mg) (g_FIRST_WORD : GlobD K mg "FIRST_WORD" (.str "start")) (d : DefK K mg "read_start" s_read_start ["row"]) (o_is_symbol : OkF P w K mg base CX0 3 "is_symbol" ["text"] (spP K 1 C_isSym)) : OkF P w K mg base CX0 4 "read_start" ["row"] (spP K 1 C_readStart) := by
  refine ok_pure d sc_read_start rfl fun f cdv A outer s H E hr ds r hC B hB => ?_
  obtain ⟨st, rfl, rfl, hs⟩ := hC
  have hl := start_len hs
  refine w_set (i := 1) sc_read_start.nd rfl (.inl rfl) (p_split (p_var (i := 0) rfl (.inl rfl) rfl) p_str (by decide +kernel) ?_) ?_
  · rw [sizeLine_eq]; omega
  rw [start_split hs]
  refine w_if (PW3.t (tw_or (t_cmp (c_neI (p_lenL z.len rfl (p_var (i := 1) rfl (.inl rfl) rfl)) p_int)) fun _ => (tw_or (t_cmp (c_neS (p_ixL (d := .str "start") (p_var (i := 1) rfl (.inl rfl) rfl) p_int ?_) (p_globD g_FIRST_WORD rfl))) fun _ => (tw_or1 (t_not (t_val (p_call (d := .bl true) o_is_symbol (hr.mono (by decide)) rfl (pl_cons (p_ixL (d := .str st) (p_var (i := 1) rfl (.inl rfl) rfl) p_int ?_) pl_nil) ?_))))))) ?_ ?_
  · exact atI_nat (j := 0) rfl
  · exact atI_nat (j := 1) rfl
  · exact ⟨st, rfl, by rw [isSymB_iff.mpr hs], by have := hs.2.1; omega, sym_ascii hs⟩
  · intro hk; simp at hk
  intro _
  refine w_nil ?_
  refine w_ret (p_ixL (d := .str st) (p_var (i := 1) rfl (.inl rfl) rfl) p_int ?_) ?_
  · exact atI_nat (j := 1) rfl
  rfl
theorem ok_read (z : Zs mg) (d : DefK K mg "read" s_read ["text"]) (o_read_start : OkF P w K mg base CX0 4 "read_start" ["row"] (spP K 1 C_readStart)) (o_read_rule : OkF P w K mg base CX0 35 "read_rule" ["row"] (spP K 1 C_readRule)) (o_Grammar : OkI P w K mg base CX0 36 "Grammar" C_Grammar ["self", "start", "rules"] (spI K 3 C_Grammar C_makes)) : OkF P w K mg base CX0 38 "read" ["text"] (spP K 1 (C_read C_Grammar)) := by
  refine ok_pure d sc_read rfl fun f cdv A outer s H E hr ds r hC B hB => ?_
  obtain ⟨st, rs, rfl, rfl, hs, g, ok⟩ := hC
  have hl := txt_len hs g.l2 ok
  refine w_set (i := 1) sc_read.nd rfl (.inl rfl) (p_split (p_var (i := 0) rfl (.inl rfl) rfl) p_str (by decide +kernel) ?_) ?_
  · rw [sizeLine_eq]; omega
  rw [txt_split hs ok]
  refine w_set (i := 2) sc_read.nd rfl (.inl rfl) (p_call (d := .str st) o_read_start (hr.mono (by decide)) rfl (pl_cons (p_ixL (d := .str ("start " ++ st)) (p_var (i := 1) rfl (.inl rfl) rfl) p_int ?_) pl_nil) ?_) ?_
  · exact atI_nat (j := 0) rfl
  · exact ⟨st, rfl, rfl, hs⟩
  have c1 : cutD (List.map D.str (("start " ++ st) :: rs.map rowS)) (some 1) none = (rs.map rowS).map D.str := cut_drop (k := 1) (by simp)
  refine w_ret (p_make (r := (gF, gDs st rs)) o_Grammar (hr.mono (by decide)) rfl (pl_cons (p_var (i := 2) rfl (.inl rfl) rfl) (pl_cons (PF3.p (pf_comp (SX := defScope s_read) (XN := ["text", "rows", "start"]) (N := ["row"]) (nt := 1) (caps := []) (pre := (fun i => rulesD (rs.take i))) ⟨rfl, by decide +kernel, by decide +kernel, by decide +kernel, rfl, by decide +kernel⟩ (i_list (PF3.p (pf_slice (p_var (i := 1) rfl (.inl rfl) rfl) (o_some p_int) o_none))) ?_ ?_ ?_)) pl_nil)) ?_) ?_
  · intro i hi
    rw [rulesD_len, List.length_take, sizeLine_eq]
    have := g.l2
    omega
  · rfl
  · rw [c1]
    intro c i d hd
    rw [List.getElem?_map, List.getElem?_map] at hd
    obtain ⟨y, hy, rfl⟩ := Option.map_eq_some_iff.mp hd
    obtain ⟨r, hr', rfl⟩ := Option.map_eq_some_iff.mp hy
    refine ⟨_, (g_name (i := 0) (show List.Nodup (α := Str) ["row"] by decide +kernel) rfl (.inl rfl)), (Sub.set rfl), .inl ⟨ruleD r, ts_nil, (p_call (d := ruleD r) o_read_rule (hr.mono (by decide)) rfl (pl_cons (p_var (i := 0) rfl (.inl rfl) rfl) pl_nil) ?_), ?_⟩⟩
    · exact ⟨r, rfl, rfl, ok r (List.mem_of_getElem? hr')⟩
    · dsimp only; unfold rulesD; rw [take_get hr', List.map_append]; rfl
  · rw [c1, List.length_map, List.length_map, List.take_length]
    exact ⟨st, rs, rfl, rfl, g⟩
  · rfl
end
end Law
set_option Elab.async false
set_option linter.all false
set_option maxRecDepth 100000
set_option maxHeartbeats 4000000
namespace Law
open PySem L2 L3
section
variable {P : Program} {w : World} {K : PySem.W.Frag} {mg : Str → Option Value} {base : Heap} {C_Grammar : Addr}
theorem ok_is_numberB (z : Zs mg) (g_MOST_FIGURES : GlobD K mg "MOST_FIGURES" (.int 60)) (d : DefK K mg "is_number" s_is_number ["text"])  : OkF P w K mg base CX0 2 "is_number" ["text"] (spP K 1 C_isNumB) := by
  refine ok_pure d sc_is_number rfl fun f cdv A outer s H E hr ds r hC B hB => ?_
  obtain ⟨x, rfl, rfl, h0, tx⟩ := hC
  have hl := tx.1
  have el : x.length = x.cps.toList.length := Array.length_toList.symm
  obtain ⟨c, rest, e⟩ : ∃ c rest, x.cps.toList = c :: rest := by
    cases q : x.cps.toList with
    | nil => exact absurd q h0
    | cons c r => exact ⟨c, r, rfl⟩
  have l1 : x.length = rest.length + 1 := by rw [el, e]; rfl
  have ev : isNumB x = (decide (rest.length + 1 ≤ 60) && (!decide (c = 48)) && (c :: rest).all isDig) := by unfold isNumB; rw [e]
  have e0 : decide ((⟨#[c]⟩ : Str) = "0") = decide (c = 48) := by
    by_cases q : c = 48
    · rw [decide_eq_true q, q]; decide +kernel
    · rw [decide_eq_false q]; exact decide_eq_false fun z => q (one_eq z (by decide +kernel))
  rw [ev]
  refine w_if (PW3.t (tw_or (t_cmp (c_lt (p_lenS z.len rfl (p_var (i := 0) rfl (.inl rfl) rfl) ?_) p_int)) fun _ => (tw_or (t_cmp (c_gt (p_lenS z.len rfl (p_var (i := 0) rfl (.inl rfl) rfl) ?_) (p_globD g_MOST_FIGURES rfl))) fun _ => (tw_or1 (t_cmp (c_eqS (p_ixS (c := c) (p_var (i := 0) rfl (.inl rfl) rfl) p_int ?_ ?_) p_str)))))) ?_ ?_
  · rw [sizeLine_eq]; omega
  · rw [sizeLine_eq]; omega
  · rw [sizeLine_eq]; omega
  · exact atI_nat (j := 0) (by rw [e]; rfl)
  · intro hk
    rw [e0, Bool.or_eq_true, Bool.or_eq_true, decide_eq_true_eq, decide_eq_true_eq, decide_eq_true_eq] at hk
    refine w_ret p_bl ?_
    show D.bl false = D.bl _
    congr 1
    rcases hk with hk | hk | hk
    · exfalso; omega
    · rw [decide_eq_false (by omega)]; rfl
    · rw [decide_eq_true hk]; simp
  intro hk
  rw [e0, Bool.or_eq_false_iff, Bool.or_eq_false_iff, decide_eq_false_iff_not, decide_eq_false_iff_not, decide_eq_false_iff_not] at hk
  refine w_nil ?_
  refine w_ret (p_all rfl z.all rfl (PF3.p (pf_comp (SX := defScope s_is_number) (XN := ["text"]) (N := ["sign"]) (nt := 1) (caps := []) (pre := (fun i => ((x.cps.toList.take i).map isDig).map D.bl)) ⟨rfl, by decide +kernel, by decide +kernel, by decide +kernel, rfl, by decide +kernel⟩ (i_text (p_var (i := 0) rfl (.inl rfl) rfl) ?_) ?_ ?_ ?_))) ?_
  · exact txt_ascii tx
  · intro i hi
    rw [List.length_map, List.length_map, List.length_take, Array.length_toList, sizeLine_eq]
    have : x.cps.size = x.length := rfl
    omega
  · rfl
  · intro c i d hd
    obtain ⟨n, hn, rfl⟩ := signs_get hd
    refine ⟨_, (g_name (i := 0) (show List.Nodup (α := Str) ["sign"] by decide +kernel) rfl (.inl rfl)), (Sub.set rfl), .inl ⟨.bl (isDig n), ts_nil, (p_eq (p_chainS p_str (p_var (i := 0) rfl (.inl rfl) rfl) p_str) ?_), ?_⟩⟩
    · show D.bl (leS "0" ⟨#[n]⟩ && leS ⟨#[n]⟩ "9") = D.bl (isDig n)
      rw [leS_l (n := 48) (by decide +kernel), leS_r (n := 57) (by decide +kernel)]
      rfl
    · dsimp only; rw [take_get hn, List.map_append, List.map_append]; rfl
  · show D.bl _ = D.bl _
    congr 1
    rw [decide_eq_true (by omega), decide_eq_false hk.2.2, signs_len, ← Array.length_toList, List.take_length, e, List.all_map]
    rfl
theorem ok_read_shareX {A5 : Addr} (z : Zs mg) (c5 : ExCls K A5) (m5 : mg "NoText" = some (.ref A5)) (d : DefK K mg "read_share" s_read_share ["text"]) (o_is_numberB : OkF P w K mg base CX0 2 "is_number" ["text"] (spP K 1 C_isNumB)) (o_share : OkF P w K mg base CX0 33 "share" ["top", "bottom"] (spP K 2 C_share)) : OkF P w K mg base (CXo P w) 34 "read_share" ["text"] (spX K 1 (C_readShareX A5)) := by
  refine ok_raises d sc_read_share rfl fun f cdv A outer s H E hr ds r hC B hB hE => ?_
  obtain ⟨rfl, t, rfl, tt, fs, hfs, hf, hb⟩ := hC
  have hl := tt.1
  have t2 := txt_repr tt
  refine w_set (i := 1) sc_read_share.nd rfl (.inl rfl) (p_split (p_var (i := 0) rfl (.inl rfl) rfl) p_str (by decide +kernel) ?_) ?_
  · rw [sizeLine_eq]; omega
  rw [hfs]
  rcases hb with hb | ⟨a, b, rfl, hb⟩
  · have hz : (!decide (((fs.map D.str).length : Int) = 2)) = true := by rw [List.length_map, Bool.not_eq_true', decide_eq_false_iff_not]; omega
    refine w_if (PW3.t (tw_or (k' := true) (t_cmp (c_neI (p_lenL z.len rfl (p_var (i := 1) rfl (.inl rfl) rfl)) p_int)) fun hk => ?_)) (fun _ => ?_) fun hk => ?_
    · rw [hz] at hk; cases hk
    · exact w_raise rfl c5 rfl m5 (pl_cons (p_join2 (p_fvR (p_var (i := 0) rfl (.inl rfl) rfl) (by rw [sizeLine_eq]; omega)) p_str (by rw [sizeLine_eq]; exact Nat.le_trans (Nat.add_le_add_right t2 _) (by decide +kernel))) pl_nil) flies_o fun F σ H S => hE _ _ _ _ _ S
    · rw [hz] at hk; cases hk
  · obtain ⟨ta, na⟩ := hf a (by simp)
    obtain ⟨tb, nb⟩ := hf b (by simp)
    refine w_if (PW3.t (tw_or (t_cmp (c_neI (p_lenL z.len rfl (p_var (i := 1) rfl (.inl rfl) rfl)) p_int)) fun _ => (tw_or (t_not (t_val (p_call (d := .bl (isNumB a)) o_is_numberB (hr.mono (by decide)) rfl (pl_cons (p_ixL (d := .str a) (p_var (i := 1) rfl (.inl rfl) rfl) p_int ?_) pl_nil) ?_))) fun _ => (tw_or1 (t_not (t_val (p_call (d := .bl (isNumB b)) o_is_numberB (hr.mono (by decide)) rfl (pl_cons (p_ixL (d := .str b) (p_var (i := 1) rfl (.inl rfl) rfl) p_int ?_) pl_nil) ?_))))))) ?_ ?_
    · exact atI_nat (j := 0) rfl
    · exact ⟨a, rfl, rfl, na, ta⟩
    · exact atI_nat (j := 1) rfl
    · exact ⟨b, rfl, rfl, nb, tb⟩
    · intro hk
      exact w_raise rfl c5 rfl m5 (pl_cons (p_join2 (p_fvR (p_var (i := 0) rfl (.inl rfl) rfl) (by rw [sizeLine_eq]; omega)) p_str (by rw [sizeLine_eq]; exact Nat.le_trans (Nat.add_le_add_right t2 _) (by decide +kernel))) pl_nil) flies_o fun F σ H S => hE _ _ _ _ _ S
    · intro hk
      rw [Bool.or_eq_false_iff, Bool.or_eq_false_iff] at hk
      rcases hb with hb | hb | hb
      · rw [hb] at hk; exact absurd hk.2.1 (by decide)
      · rw [hb] at hk; exact absurd hk.2.2 (by decide)
      · obtain ⟨rfl, rfl⟩ := hb
        refine w_nil ?_
        refine w_set (i := 2) sc_read_share.nd rfl (.inl rfl) (p_tup (pl_cons (p_intS (n := 2) z.int rfl (p_ixL (d := .str "2") (p_var (i := 1) rfl (.inl rfl) rfl) p_int ?_) ?_ ?_) (pl_cons (p_intS (n := 4) z.int rfl (p_ixL (d := .str "4") (p_var (i := 1) rfl (.inl rfl) rfl) p_int ?_) ?_ ?_) pl_nil))) ?_
        · exact atI_nat (j := 0) rfl
        · decide +kernel
        · decide +kernel
        · exact atI_nat (j := 1) rfl
        · decide +kernel
        · decide +kernel
        refine w_if (t_cmp (c_ne hr.units (p_call (d := sh (Rat.divInt 2 4)) o_share (hr.mono (by decide)) rfl (pl_cons (p_ixT (p_var (i := 2) rfl (.inl rfl) rfl) p_int rfl) (pl_cons (p_ixT (p_var (i := 2) rfl (.inl rfl) rfl) p_int rfl) pl_nil)) ⟨2, 4, rfl, rfl, by decide, by decide⟩) (p_var (i := 2) rfl (.inl rfl) rfl) ?_ dep_sh)) (fun hk => ?_) fun hk => ?_
        · unfold sh; simp [kin, kins]
        · clear hk
          exact w_raise rfl c5 rfl m5 (pl_cons (p_join2 (p_fvR (p_var (i := 0) rfl (.inl rfl) rfl) (by rw [sizeLine_eq]; omega)) p_str (by rw [sizeLine_eq]; exact Nat.le_trans (Nat.add_le_add_right t2 _) (by decide +kernel))) pl_nil) flies_o fun F σ H S => hE _ _ _ _ _ S
        · exfalso
          have e1 : (Rat.divInt 2 4).num = 1 := by decide +kernel
          have e2 : (Rat.divInt 2 4).den = 2 := by decide +kernel
          unfold sh at hk
          rw [e1, e2] at hk
          simp [beqD, beqL] at hk
theorem ok_read_ruleX {A5 : Addr} (z : Zs mg) (c5 : ExCls K A5) (m5 : mg "NoText" = some (.ref A5)) (g_MOST_SYMBOLS : GlobD K mg "MOST_SYMBOLS" (.int 4)) (d : DefK K mg "read_rule" s_read_rule ["row"]) (o_is_symbol : OkF P w K mg base CX0 3 "is_symbol" ["text"] (spP K 1 C_isSym)) (o_read_shareX : OkF P w K mg base (CXo P w) 34 "read_share" ["text"] (spX K 1 (C_readShareX A5))) : OkF P w K mg base (CXo P w) 35 "read_rule" ["row"] (spX K 1 (C_readRuleX A5)) := by
  refine ok_raises d sc_read_rule rfl fun f cdv A outer s H E hr ds r hC B hB hE => ?_
  obtain ⟨rfl, t, rfl, tt, ws, hws, hf, hb⟩ := hC
  have hl := tt.1
  have t2 := txt_repr tt
  refine w_set (i := 1) sc_read_rule.nd rfl (.inl rfl) (p_split (p_var (i := 0) rfl (.inl rfl) rfl) p_str (by decide +kernel) ?_) ?_
  · rw [sizeLine_eq]; omega
  rw [hws]
  refine w_if (PW3.t (tw_or (t_cmp (c_lt (p_lenL z.len rfl (p_var (i := 1) rfl (.inl rfl) rfl)) p_int)) fun _ => (tw_or1 (t_cmp (c_gt (p_lenL z.len rfl (p_var (i := 1) rfl (.inl rfl) rfl)) (p_add p_int (p_globD g_MOST_SYMBOLS rfl))))))) ?_ ?_
  · intro _
    exact w_raise rfl c5 rfl m5 (pl_cons (p_join2 (p_fvR (p_var (i := 0) rfl (.inl rfl) rfl) (by rw [sizeLine_eq]; omega)) p_str (by rw [sizeLine_eq]; exact Nat.le_trans (Nat.add_le_add_right t2 _) (by decide +kernel))) pl_nil) flies_o fun F σ H S => hE _ _ _ _ _ S
  intro hk
  rw [List.length_map, Bool.or_eq_false_iff, decide_eq_false_iff_not, decide_eq_false_iff_not] at hk
  refine w_nil ?_
  obtain ⟨h, s', b, rfl, b1, b4, hb⟩ : ∃ h s b, ws = h :: s :: b ∧ 1 ≤ b.length ∧ b.length ≤ 4 ∧ ((∃ x ∈ h :: b, ¬ IsSym x) ∨ Txt.endswith s ":" = false ∨ ∃ t, s = t ++ ":" ∧ BadSh t) := by
    rcases hb with hb | hb | hb
    · exfalso; omega
    · exfalso; omega
    · exact hb
  have c1 : cutD (List.map D.str (h :: s' :: b)) none (some 1) = [.str h] := cut_take (k := 1) (by simp)
  have c2 : cutD (List.map D.str (h :: s' :: b)) (some 2) none = b.map D.str := cut_drop (k := 2) (by simp)
  refine w_if (PW3.t (tw_or (t_not (t_val (p_all rfl z.all rfl (PF3.p (pf_comp (SX := defScope s_read_rule) (XN := ["row", "words"]) (N := ["word"]) (nt := 1) (caps := []) (pre := (fun i => (((h :: b).take i).map isSymB).map D.bl)) ⟨rfl, by decide +kernel, by decide +kernel, by decide +kernel, rfl, by decide +kernel⟩ (i_list (p_cat (PF3.p (pf_slice (p_var (i := 1) rfl (.inl rfl) rfl) o_none (o_some p_int))) (PF3.p (pf_slice (p_var (i := 1) rfl (.inl rfl) rfl) (o_some p_int) o_none)) ?_)) ?_ ?_ ?_))))) fun _ => (tw_or1 (t_not (t_val (p_ends (p_ixL (d := .str s') (p_var (i := 1) rfl (.inl rfl) rfl) p_int ?_) p_str)))))) ?_ ?_
  · rw [c1, c2, List.length_map, sizeLine_eq, List.length_singleton]; omega
  · intro i hi
    rw [List.length_map, List.length_map, List.length_take, List.length_cons, sizeLine_eq]
    omega
  · rfl
  · rw [c1, c2]
    intro c i d hd
    have hd' : ((h :: b).map D.str)[i]? = some d := hd
    rw [List.getElem?_map] at hd'
    obtain ⟨x, hx, rfl⟩ := Option.map_eq_some_iff.mp hd'
    have sx : Txt x := by
      rcases List.mem_cons.mp (List.mem_of_getElem? hx) with e | e
      · rw [e]; exact hf h (by simp)
      · exact hf x (by simp [e])
    refine ⟨_, (g_name (i := 0) (show List.Nodup (α := Str) ["word"] by decide +kernel) rfl (.inl rfl)), (Sub.set rfl), .inl ⟨.bl (isSymB x), ts_nil, (p_call (d := .bl (isSymB x)) o_is_symbol (hr.mono (by decide)) rfl (pl_cons (p_var (i := 0) rfl (.inl rfl) rfl) pl_nil) ?_), ?_⟩⟩
    · exact ⟨x, rfl, rfl, sx.1, txt_ascii sx⟩
    · dsimp only; rw [take_get hx, List.map_append, List.map_append]; rfl
  · exact atI_nat (j := 1) rfl
  · intro _
    exact w_raise rfl c5 rfl m5 (pl_cons (p_join2 (p_fvR (p_var (i := 0) rfl (.inl rfl) rfl) (by rw [sizeLine_eq]; omega)) p_str (by rw [sizeLine_eq]; exact Nat.le_trans (Nat.add_le_add_right t2 _) (by decide +kernel))) pl_nil) flies_o fun F σ H S => hE _ _ _ _ _ S
  intro hk2
  rw [c1, c2, Bool.or_eq_false_iff, Bool.not_eq_false', Bool.not_eq_false'] at hk2
  refine w_nil ?_
  obtain ⟨t', rfl, bs⟩ : ∃ t, s' = t ++ ":" ∧ BadSh t := by
    rcases hb with ⟨x, hx, nx⟩ | hb | hb
    · exfalso
      have := hk2.1
      rw [show ([D.str h] ++ List.map D.str b).length = (h :: b).length by simp, List.take_length, List.all_map, List.all_eq_true] at this
      exact nx (isSymB_iff.mp (this x hx))
    · rw [hb] at hk2; exact absurd hk2.2 (by decide)
    · exact hb
  have ts := (hf (t' ++ ":") (by simp)).1
  refine w_retR (r_tup3R (p_ixL (d := .str h) (p_var (i := 1) rfl (.inl rfl) rfl) p_int (atI_nat (j := 0) rfl)) (p_tupleOf z.tuple rfl (PF3.p (pf_slice (p_var (i := 1) rfl (.inl rfl) rfl) (o_some p_int) o_none)) (.inl rfl)) (r_call (ds := [.str t']) o_read_shareX (pass_o fun _ _ _ q => q) (hr.mono (by decide)) rfl (pl_cons (p_eq (p_sliceS (p_ixL (d := .str (t' ++ ":")) (p_var (i := 1) rfl (.inl rfl) rfl) p_int (atI_nat (j := 1) rfl)) o_none (o_some (p_neg p_int)) (by rw [sizeLine_eq]; omega)) (by rw [colon_eq, slice_last])) pl_nil) ⟨rfl, t', rfl, bs⟩ fun F σ H S => hE _ _ _ _ _ S))
theorem ok_read_startX {A5 : Addr} (z : Zs mg) (c5 : ExCls K A5) (m5 : mg "NoText" = some (.ref A5)) (g_FIRST_WORD : GlobD K mg "FIRST_WORD" (.str "start")) (d : DefK K mg "read_start" s_read_start ["row"]) (o_is_symbol : OkF P w K mg base CX0 3 "is_symbol" ["text"] (spP K 1 C_isSym)) : OkF P w K mg base (CXo P w) 4 "read_start" ["row"] (spX K 1 (C_readStartX A5)) := by
  refine ok_raises d sc_read_start rfl fun f cdv A outer s H E hr ds r hC B hB hE => ?_
  obtain ⟨rfl, t, rfl, tt, ws, hws, hf, hb⟩ := hC
  have hl := tt.1
  have t2 := txt_repr tt
  refine w_set (i := 1) sc_read_start.nd rfl (.inl rfl) (p_split (p_var (i := 0) rfl (.inl rfl) rfl) p_str (by decide +kernel) ?_) ?_
  · rw [sizeLine_eq]; omega
  rw [hws]
  rcases hb with hb | ⟨a, b, rfl, hb⟩
  · have hz : (!decide (((ws.map D.str).length : Int) = 2)) = true := by rw [List.length_map, Bool.not_eq_true', decide_eq_false_iff_not]; omega
    refine w_if (PW3.t (tw_or (k' := true) (t_cmp (c_neI (p_lenL z.len rfl (p_var (i := 1) rfl (.inl rfl) rfl)) p_int)) fun hk => ?_)) (fun _ => ?_) fun hk => ?_
    · rw [hz] at hk; cases hk
    · exact w_raise rfl c5 rfl m5 (pl_cons (p_join2 (p_fvR (p_var (i := 0) rfl (.inl rfl) rfl) (by rw [sizeLine_eq]; omega)) p_str (by rw [sizeLine_eq]; exact Nat.le_trans (Nat.add_le_add_right t2 _) (by decide +kernel))) pl_nil) flies_o fun F σ H S => hE _ _ _ _ _ S
    · rw [hz] at hk; cases hk
  · have tb := hf b (by simp)
    refine w_if (PW3.t (tw_or (t_cmp (c_neI (p_lenL z.len rfl (p_var (i := 1) rfl (.inl rfl) rfl)) p_int)) fun _ => (tw_or (t_cmp (c_neS (p_ixL (d := .str a) (p_var (i := 1) rfl (.inl rfl) rfl) p_int ?_) (p_globD g_FIRST_WORD rfl))) fun _ => (tw_or1 (t_not (t_val (p_call (d := .bl (isSymB b)) o_is_symbol (hr.mono (by decide)) rfl (pl_cons (p_ixL (d := .str b) (p_var (i := 1) rfl (.inl rfl) rfl) p_int ?_) pl_nil) ?_))))))) ?_ ?_
    · exact atI_nat (j := 0) rfl
    · exact atI_nat (j := 1) rfl
    · exact ⟨b, rfl, rfl, tb.1, txt_ascii tb⟩
    · intro _
      exact w_raise rfl c5 rfl m5 (pl_cons (p_join2 (p_fvR (p_var (i := 0) rfl (.inl rfl) rfl) (by rw [sizeLine_eq]; omega)) p_str (by rw [sizeLine_eq]; exact Nat.le_trans (Nat.add_le_add_right t2 _) (by decide +kernel))) pl_nil) flies_o fun F σ H S => hE _ _ _ _ _ S
    · intro hk
      rw [Bool.or_eq_false_iff, Bool.or_eq_false_iff] at hk
      rcases hb with hb | hb
      · exfalso
        have := hk.2.1
        rw [decide_eq_false hb] at this
        exact absurd this (by decide)
      · rw [isSymB_no hb] at hk; exact absurd hk.2.2 (by decide)
end
end Law
set_option Elab.async false
set_option linter.all false
set_option maxRecDepth 100000
set_option maxHeartbeats 4000000
namespace Law
open PySem L2 L3
section
variable {P : Program} {w : World} {K : PySem.W.Frag} {mg : Str → Option Value} {base : Heap} {C_Grammar : Addr}
theorem ok_readX {A3 A5 : Addr} (z : Zs mg) (o_GrammarX : OkI P w K mg base (CXo P w) 36 "Grammar" C_Grammar ["self", "start", "rules"] (spIX K 3 C_Grammar (C_makesX A3))) (d : DefK K mg "read" s_read ["text"]) (o_read_start : OkF P w K mg base CX0 4 "read_start" ["row"] (spP K 1 C_readStart)) (o_read_startX : OkF P w K mg base (CXo P w) 4 "read_start" ["row"] (spX K 1 (C_readStartX A5))) (o_read_rule : OkF P w K mg base CX0 35 "read_rule" ["row"] (spP K 1 C_readRule)) (o_read_ruleX : OkF P w K mg base (CXo P w) 35 "read_rule" ["row"] (spX K 1 (C_readRuleX A5))) (o_Grammar : OkI P w K mg base CX0 36 "Grammar" C_Grammar ["self", "start", "rules"] (spI K 3 C_Grammar C_makes)) : OkF P w K mg base (CXo P w) 38 "read" ["text"] (spX K 1 (C_readX A3 A5)) := by
  refine ok_raises d sc_read rfl fun f cdv A outer s H E hr ds r hC B hB hE => ?_
  obtain ⟨t, rfl, hb⟩ := hC
  rcases hb with ⟨rfl, rows, rfl, r0, rl, rf, hb⟩ | ⟨rfl, st, rs, rfl, hs, ok, l30, ng⟩
  · have jl := join_len (s := "\n") (B := 100) (ps := rows) fun p hp => (rf p hp).2.1
    rw [show ("\n" : Str).length = 1 by decide +kernel] at jl
    refine w_set (i := 1) sc_read.nd rfl (.inl rfl) (p_split (p_var (i := 0) rfl (.inl rfl) rfl) p_str (by decide +kernel) ?_) ?_
    · rw [sizeLine_eq]; omega
    rw [show Txt.split (Txt.join "\n" rows) "\n" = rows from by rw [feed_eq]; exact split_join r0 fun p hp => (rf p hp).1]
    rcases hb with ⟨x, rest, rfl, bad⟩ | ⟨st, rs, bad, rest, rfl, hs, ok, hbad⟩
    · exact w_setR (i := 2) sc_read.nd rfl (.inl rfl) (r_call o_read_startX (pass_o fun _ _ _ q => q) (hr.mono (by decide)) rfl (pl_cons (p_ixL (d := .str x) (p_var (i := 1) rfl (.inl rfl) rfl) p_int (atI_nat (j := 0) rfl)) pl_nil) ⟨rfl, x, rfl, bad⟩ fun F σ H S => hE _ _ _ _ _ S)
    · refine w_set (i := 2) sc_read.nd rfl (.inl rfl) (p_call (d := .str st) o_read_start (hr.mono (by decide)) rfl (pl_cons (p_ixL (d := .str ("start " ++ st)) (p_var (i := 1) rfl (.inl rfl) rfl) p_int ?_) pl_nil) ?_) ?_
      · exact atI_nat (j := 0) rfl
      · exact ⟨st, rfl, rfl, hs⟩
      have c1 : cutD (List.map D.str (("start " ++ st) :: (rs.map rowS ++ bad :: rest))) (some 1) none = (rs.map rowS ++ bad :: rest).map D.str := cut_drop (k := 1) (by simp)
      have ll : rs.length ≤ 10 := by
        simp only [List.length_cons, List.length_append, List.length_map] at rl
        omega
      refine w_retR (r_make2R o_Grammar (hr.mono (by decide)) rfl (p_var (i := 2) rfl (.inl rfl) rfl) (r_compX (C := _) (SX := defScope s_read) (XN := ["text", "rows", "start"]) (N := ["row"]) (nt := 1) (caps := []) (k := rs.length) (pre := fun i => rulesD (rs.take i)) (passC_o fun _ _ _ q => q) (fun F σ H S => hE _ _ _ _ _ S) ⟨rfl, by decide +kernel, by decide +kernel, by decide +kernel, rfl, by decide +kernel⟩ (i_list (PF3.p (pf_slice (p_var (i := 1) rfl (.inl rfl) rfl) (o_some p_int) o_none))) ?_ rfl ?_ ?_ ?_))
      · intro i hi
        rw [rulesD_len, List.length_take, sizeLine_eq]
        omega
      · rw [c1]; simp
      · rw [c1]
        intro c i d hi hd
        rw [List.map_append, List.getElem?_append_left (by simpa using hi), List.getElem?_map, List.getElem?_map] at hd
        obtain ⟨y, hy, rfl⟩ := Option.map_eq_some_iff.mp hd
        obtain ⟨r, hr', rfl⟩ := Option.map_eq_some_iff.mp hy
        refine ⟨_, ruleD r, (g_name (i := 0) (show List.Nodup (α := Str) ["row"] by decide +kernel) rfl (.inl rfl)), (Sub.set rfl), (p_call (d := ruleD r) o_read_rule (hr.mono (by decide)) rfl (pl_cons (p_var (i := 0) rfl (.inl rfl) rfl) pl_nil) ⟨r, rfl, rfl, ok r (List.mem_of_getElem? hr')⟩), ?_⟩
        unfold rulesD; rw [take_get hr', List.map_append]; rfl
      · rw [c1]
        intro c d hd
        rw [List.map_append, List.getElem?_append_right (by simp), List.length_map, List.length_map, Nat.sub_self] at hd
        cases hd
        exact ⟨_, (g_name (i := 0) (show List.Nodup (α := Str) ["row"] by decide +kernel) rfl (.inl rfl)), rx_call o_read_ruleX (hr.mono (by decide)) rfl (pl_cons (p_var (i := 0) rfl (.inl rfl) rfl) pl_nil) ⟨rfl, bad, rfl, hbad⟩⟩
  · have hl := txt_len hs l30 ok
    refine w_set (i := 1) sc_read.nd rfl (.inl rfl) (p_split (p_var (i := 0) rfl (.inl rfl) rfl) p_str (by decide +kernel) ?_) ?_
    · rw [sizeLine_eq]; omega
    rw [txt_split hs ok]
    refine w_set (i := 2) sc_read.nd rfl (.inl rfl) (p_call (d := .str st) o_read_start (hr.mono (by decide)) rfl (pl_cons (p_ixL (d := .str ("start " ++ st)) (p_var (i := 1) rfl (.inl rfl) rfl) p_int ?_) pl_nil) ?_) ?_
    · exact atI_nat (j := 0) rfl
    · exact ⟨st, rfl, rfl, hs⟩
    have c1 : cutD (List.map D.str (("start " ++ st) :: rs.map rowS)) (some 1) none = (rs.map rowS).map D.str := cut_drop (k := 1) (by simp)
    refine w_retR (r_make (ds := [.str st, .lst (rulesD rs)]) o_GrammarX (pass_o fun _ _ _ q => q) (hr.mono (by decide)) rfl (pl_cons (p_var (i := 2) rfl (.inl rfl) rfl) (pl_cons (p_eq (PF3.p (pf_comp (SX := defScope s_read) (XN := ["text", "rows", "start"]) (N := ["row"]) (nt := 1) (caps := []) (pre := (fun i => rulesD (rs.take i))) ⟨rfl, by decide +kernel, by decide +kernel, by decide +kernel, rfl, by decide +kernel⟩ (i_list (PF3.p (pf_slice (p_var (i := 1) rfl (.inl rfl) rfl) (o_some p_int) o_none))) ?_ ?_ ?_)) ?_) pl_nil)) ⟨rfl, st, rs, rfl, sym_txt hs, Nat.le_trans l30 (by decide), fun r hr' => row_tech (ok r hr'), ng⟩ fun F σ H S => hE _ _ _ _ _ S)
    · intro i hi
      rw [rulesD_len, List.length_take, sizeLine_eq]
      omega
    · rfl
    · rw [c1]
      intro c i d hd
      rw [List.getElem?_map, List.getElem?_map] at hd
      obtain ⟨y, hy, rfl⟩ := Option.map_eq_some_iff.mp hd
      obtain ⟨r, hr', rfl⟩ := Option.map_eq_some_iff.mp hy
      refine ⟨_, (g_name (i := 0) (show List.Nodup (α := Str) ["row"] by decide +kernel) rfl (.inl rfl)), (Sub.set rfl), .inl ⟨ruleD r, ts_nil, (p_call (d := ruleD r) o_read_rule (hr.mono (by decide)) rfl (pl_cons (p_var (i := 0) rfl (.inl rfl) rfl) pl_nil) ?_), ?_⟩⟩
      · exact ⟨r, rfl, rfl, ok r (List.mem_of_getElem? hr')⟩
      · dsimp only; unfold rulesD; rw [take_get hr', List.map_append]; rfl
    · rw [c1, List.length_map, List.length_map, List.take_length]
end
end Law
set_option Elab.async false
set_option linter.all false
set_option maxRecDepth 100000
set_option maxHeartbeats 4000000
namespace Law
open PySem L2 L3
section
variable {P : Program} {w : World} {K : PySem.W.Frag} {mg : Str → Option Value} {base : Heap} {C_Grammar : Addr}
theorem ok_law_kind {S A1 A2 A3 A4 A5 : Addr} (z : Zs mg) (er3 : Errs K mg S A1 A2 A3 A4 A5 A3 false false true false false) (er5 : Errs K mg S A1 A2 A3 A4 A5 A5 false false false false true) (d : DefK K mg "_law_kind" s_law_kind ["_law_text"]) (o_read : OkF P w K mg base CX0 38 "read" ["text"] (spP K 1 (C_read C_Grammar))) (o_readX : OkF P w K mg base (CXo P w) 38 "read" ["text"] (spX K 1 (C_readX A3 A5))) : OkF P w K mg base CX0 39 "_law_kind" ["_law_text"] (spP K 1 C_kind) := by
  refine ok_pure d sc_law_kind rfl fun f cdv A outer s H E hr ds r hC B hB => ?_
  obtain ⟨t, rfl, hb⟩ := hC
  rcases hb with ⟨rfl, st, rs, rfl, hs, gv, ok⟩ | ⟨rfl, nt⟩ | ⟨rfl, ng⟩
  · refine w_tryOk (i := 1) ⟨rfl, rfl, rfl⟩ rfl (p_call (d := gD C_Grammar st rs) o_read (hr.mono (by decide)) rfl (pl_cons (p_var (i := 0) rfl (.inl rfl) rfl) pl_nil) ⟨st, rs, rfl, rfl, hs, gv, ok⟩) rfl er3.mS sc_law_kind.nd rfl rfl ?_
    refine w_ret p_str ?_
    rfl
  · have er := er5
    refine w_try (i := 1) ⟨rfl, rfl, rfl⟩ rfl o_readX (hr.mono (by decide)) rfl (pl_cons (p_var (i := 0) rfl (.inl rfl) rfl) pl_nil) ⟨t, rfl, .inl ⟨rfl, nt⟩⟩ rfl er.mS er.xS sc_law_kind.nd rfl rfl fun ea => ?_
    refine w_if (PW3.t (tw_or (t_val (p_isinX z.isinstance rfl (p_var (i := 1) rfl (.inl rfl) rfl) (p_glob rfl er.m1 (v := .ref A1) rfl i_raw) er.q er.k1 (fun z => nomatch z))) fun _ => (tw_or (t_val (p_isinX z.isinstance rfl (p_var (i := 1) rfl (.inl rfl) rfl) (p_glob rfl er.m2 (v := .ref A2) rfl i_raw) er.q er.k2 (fun z => nomatch z))) fun _ => (tw_or (t_val (p_isinX z.isinstance rfl (p_var (i := 1) rfl (.inl rfl) rfl) (p_glob rfl er.m4 (v := .ref A4) rfl i_raw) er.q er.k4 (fun z => nomatch z))) fun _ => (tw_or1 (t_not (t_val (p_isinX z.isinstance rfl (p_var (i := 1) rfl (.inl rfl) rfl) (p_bltn rfl z.ValueError bt_ValueError (v := .ty "ValueError") rfl) er.q er.kV (fun z => nomatch z))))))))) ?_ ?_
    · intro hk; exact absurd hk (by decide)
    intro _
    refine w_nil ?_
    refine w_if (t_cmp (c_eqB (p_isinX z.isinstance rfl (p_var (i := 1) rfl (.inl rfl) rfl) (p_glob rfl er.m5 (v := .ref A5) rfl i_raw) er.q er.k5 (fun z => nomatch z)) (p_isinX z.isinstance rfl (p_var (i := 1) rfl (.inl rfl) rfl) (p_glob rfl er.m3 (v := .ref A3) rfl i_raw) er.q er.k3 (fun z => nomatch z)))) ?_ ?_
    · intro hk; exact absurd hk (by decide)
    intro _
    refine w_nil ?_
    refine w_ret (p_ixL (d := .str "no text") (p_lst (pl_cons p_str (pl_cons p_str pl_nil))) (p_intB z.int rfl (p_isinX z.isinstance rfl (p_var (i := 1) rfl (.inl rfl) rfl) (p_glob rfl er.m3 (v := .ref A3) rfl i_raw) er.q er.k3 (fun z => nomatch z))) ?_) ?_
    · exact atI_nat (j := 0) rfl
    · rfl
  · have er := er3
    refine w_try (i := 1) ⟨rfl, rfl, rfl⟩ rfl o_readX (hr.mono (by decide)) rfl (pl_cons (p_var (i := 0) rfl (.inl rfl) rfl) pl_nil) ⟨t, rfl, .inr ⟨rfl, ng⟩⟩ rfl er.mS er.xS sc_law_kind.nd rfl rfl fun ea => ?_
    refine w_if (PW3.t (tw_or (t_val (p_isinX z.isinstance rfl (p_var (i := 1) rfl (.inl rfl) rfl) (p_glob rfl er.m1 (v := .ref A1) rfl i_raw) er.q er.k1 (fun z => nomatch z))) fun _ => (tw_or (t_val (p_isinX z.isinstance rfl (p_var (i := 1) rfl (.inl rfl) rfl) (p_glob rfl er.m2 (v := .ref A2) rfl i_raw) er.q er.k2 (fun z => nomatch z))) fun _ => (tw_or (t_val (p_isinX z.isinstance rfl (p_var (i := 1) rfl (.inl rfl) rfl) (p_glob rfl er.m4 (v := .ref A4) rfl i_raw) er.q er.k4 (fun z => nomatch z))) fun _ => (tw_or1 (t_not (t_val (p_isinX z.isinstance rfl (p_var (i := 1) rfl (.inl rfl) rfl) (p_bltn rfl z.ValueError bt_ValueError (v := .ty "ValueError") rfl) er.q er.kV (fun z => nomatch z))))))))) ?_ ?_
    · intro hk; exact absurd hk (by decide)
    intro _
    refine w_nil ?_
    refine w_if (t_cmp (c_eqB (p_isinX z.isinstance rfl (p_var (i := 1) rfl (.inl rfl) rfl) (p_glob rfl er.m5 (v := .ref A5) rfl i_raw) er.q er.k5 (fun z => nomatch z)) (p_isinX z.isinstance rfl (p_var (i := 1) rfl (.inl rfl) rfl) (p_glob rfl er.m3 (v := .ref A3) rfl i_raw) er.q er.k3 (fun z => nomatch z)))) ?_ ?_
    · intro hk; exact absurd hk (by decide)
    intro _
    refine w_nil ?_
    refine w_ret (p_ixL (d := .str "no grammar") (p_lst (pl_cons p_str (pl_cons p_str pl_nil))) (p_intB z.int rfl (p_isinX z.isinstance rfl (p_var (i := 1) rfl (.inl rfl) rfl) (p_glob rfl er.m3 (v := .ref A3) rfl i_raw) er.q er.k3 (fun z => nomatch z))) ?_) ?_
    · exact atI_nat (j := 1) rfl
    · rfl
end
end Law
set_option Elab.async false
set_option linter.all false
set_option maxRecDepth 100000
set_option maxHeartbeats 4000000
namespace Law
open PySem L2 L3
section
variable {P : Program} {w : World} {K : PySem.W.Frag} {mg : Str → Option Value} {base : Heap} {C_Grammar : Addr}
theorem ll_0 : (": " : Str).length = 2 := by decide +kernel
theorem ll_1 : ("start" : Str).length = 5 := by decide +kernel
theorem ll_2 : ("/" : Str).length = 1 := by decide +kernel
theorem ll_3 : ("begin " : Str).length = 6 := by decide +kernel
theorem ll_4 : ("start a1" : Str).length = 8 := by decide +kernel
theorem ll_5 : ("" : Str).length = 0 := by decide +kernel
theorem ll_6 : ("start  " : Str).length = 7 := by decide +kernel
theorem ll_7 : (" " : Str).length = 1 := by decide +kernel
theorem ll_8 : ("Start " : Str).length = 6 := by decide +kernel
theorem ll_9 : ("a1" : Str).length = 2 := by decide +kernel
theorem ll_10 : ("start " : Str).length = 6 := by decide +kernel
theorem ll_11 : ("\nstart " : Str).length = 7 := by decide +kernel
theorem ll_12 : (" start " : Str).length = 7 := by decide +kernel
theorem ll_13 : (" 0/1: " : Str).length = 6 := by decide +kernel
theorem ll_14 : (" 2/4: " : Str).length = 6 := by decide +kernel
theorem ll_15 : (" 1: " : Str).length = 4 := by decide +kernel
theorem ll_16 : (" 1/2/3: " : Str).length = 8 := by decide +kernel
theorem ll_17 : (" 1/1000: " : Str).length = 9 := by decide +kernel
theorem ll_18 : (" 99/100: " : Str).length = 9 := by decide +kernel
theorem ll_19 : (" 1_0/11: " : Str).length = 9 := by decide +kernel
theorem ll_20 : ("a1 " : Str).length = 3 := by decide +kernel
theorem ll_21 : ("  " : Str).length = 2 := by decide +kernel
theorem ll_22 : (" 0" : Str).length = 2 := by decide +kernel
theorem ll_23 : (" -" : Str).length = 2 := by decide +kernel
theorem ll_24 : (" +" : Str).length = 2 := by decide +kernel
theorem ll_25 : ("0" : Str).length = 1 := by decide +kernel
theorem ll_26 : (" 1/" : Str).length = 3 := by decide +kernel
theorem ll_27 : ("1" : Str).length = 1 := by decide +kernel
theorem ll_c : (":" : Str).length = 1 := by decide +kernel
theorem ll_r : (repS "1" 61).length = 61 := by decide +kernel
theorem ok_law_odd (z : Zs mg) (d : DefK K mg "_law_odd" s_law_odd ["_law_names", "_law_own", "_law_cell"])  : OkF P w K mg base CX0 2 "_law_odd" ["_law_names", "_law_own", "_law_cell"] (spP K 3 C_odd) := by
  refine ok_pure d sc_law_odd rfl fun f cdv A outer s H E hr ds r hC B hB => ?_
  obtain ⟨h, w', n, q, c, e, rfl, rfl, he, sh', sw, sn, q0, qn, qd⟩ := hC
  have lh := sym_len sh'
  have lw := sym_len sw
  have ln := sym_len sn
  have lt := sh_len5 q0 qn qd
  have np := My.q_num_pos q0
  have e1 : Str.ofString (toString q.num) = numS q.num.toNat := by unfold numS; rw [show ((q.num.toNat : Nat) : Int) = q.num by omega]
  have e2 : Str.ofString (toString (q.den : Int)) = numS q.den := rfl
  have d1 := dig2 (m := q.num.toNat) (by omega)
  have d2 := dig2 qd
  refine w_set (i := 3) sc_law_odd.nd rfl (.inl rfl) (p_ixL (d := .str h) (p_var (i := 0) rfl (.inl rfl) rfl) p_int ?_) ?_
  · exact atI_nat (j := 0) rfl
  refine w_set (i := 4) sc_law_odd.nd rfl (.inl rfl) (p_ixL (d := .str w') (p_var (i := 0) rfl (.inl rfl) rfl) p_int ?_) ?_
  · exact atI_nat (j := 1) rfl
  refine w_set (i := 5) sc_law_odd.nd rfl (.inl rfl) (p_eq (d := .str (shS q ++ ": ")) (p_catS (p_catS (p_catS (p_strI z.str rfl (p_ixT (p_var (i := 1) rfl (.inl rfl) rfl) p_int rfl) ?_) p_str ?_) (p_strI z.str rfl (p_ixT (p_var (i := 1) rfl (.inl rfl) rfl) p_int rfl) ?_) ?_) p_str ?_) ?_) ?_
  · exact log_small (Int.lt_trans qn (by decide)) (Int.le_of_lt np)
  · simp only [len_app, e1, e2, ll_0, ll_2, sizeLine_eq]; omega
  · exact log_small' (Nat.lt_trans qd (by decide +kernel))
  · simp only [len_app, e1, e2, ll_0, ll_2, sizeLine_eq]; omega
  · simp only [len_app, e1, e2, ll_0, ll_2, sizeLine_eq]; omega
  · rw [e1]; rfl
  clear e1 e2 d1 d2 np
  refine w_ga (Γ' := [some (.lst (strsD [h, w', n])), some (sh q), some (.int c), some (.str h), some (.str w'), some (.str (shS q ++ ": ")), none]) rfl ?_
  refine w4_out ?_
  refine w4_set (i := 6) sc_law_odd.nd rfl (.inl rfl) (p4_eq (d := .lst ((odP0 h w' n (shS q)).map oddD)) (p4_lst (l4_cons (p4_tup (l4_cons p4_int (l4_cons (p4_catS p4_str (p4_var (i := 3) rfl (.inl rfl) rfl) (by simp only [len_app, ll_0, ll_1, ll_3, sizeLine_eq]; omega)) (l4_cons p4_int l4_nil)))) (l4_cons (p4_tup (l4_cons p4_int (l4_cons p4_str (l4_cons p4_int l4_nil)))) l4_nil))) rfl) ?_
  refine w4_ga (Γ' := [some (.lst (strsD [h, w', n])), some (sh q), some (.int c), some (.str h), some (.str w'), some (.str (shS q ++ ": ")), some (.lst ((odP0 h w' n (shS q)).map oddD))]) rfl ?_
  refine w4_set (i := 6) sc_law_odd.nd rfl (.inl rfl) (p4_eq (d := .lst ((odP1 h w' n (shS q)).map oddD)) (p4_cat (p4_var (i := 6) rfl (.inl rfl) rfl) (p4_lst (l4_cons (p4_tup (l4_cons p4_int (l4_cons (p4_catS p4_str (p4_var (i := 3) rfl (.inl rfl) rfl) (by simp only [len_app, ll_0, ll_6, ll_7, ll_10, sizeLine_eq]; omega)) (l4_cons p4_int l4_nil)))) (l4_cons (p4_tup (l4_cons p4_int (l4_cons (p4_catS (p4_catS p4_str (p4_var (i := 3) rfl (.inl rfl) rfl) (by simp only [len_app, ll_0, ll_6, ll_7, ll_10, sizeLine_eq]; omega)) p4_str (by simp only [len_app, ll_0, ll_6, ll_7, ll_10, sizeLine_eq]; omega)) (l4_cons p4_int l4_nil)))) l4_nil))) ?_) (by unfold odP1; rw [List.map_append]; rfl)) ?_
  · rw [odl0]; simp only [List.length_cons, List.length_nil, sizeLine_eq]; decide
  refine w4_ga (Γ' := [some (.lst (strsD [h, w', n])), some (sh q), some (.int c), some (.str h), some (.str w'), some (.str (shS q ++ ": ")), some (.lst ((odP1 h w' n (shS q)).map oddD))]) rfl ?_
  refine w4_set (i := 6) sc_law_odd.nd rfl (.inl rfl) (p4_eq (d := .lst ((odP2 h w' n (shS q)).map oddD)) (p4_cat (p4_var (i := 6) rfl (.inl rfl) rfl) (p4_lst (l4_cons (p4_tup (l4_cons p4_int (l4_cons p4_str (l4_cons p4_int l4_nil)))) (l4_cons (p4_tup (l4_cons p4_int (l4_cons (p4_catS p4_str (p4_var (i := 3) rfl (.inl rfl) rfl) (by simp only [len_app, ll_0, ll_4, ll_8, sizeLine_eq]; omega)) (l4_cons p4_int l4_nil)))) l4_nil))) ?_) (by unfold odP2; rw [List.map_append]; rfl)) ?_
  · rw [odl1]; simp only [List.length_cons, List.length_nil, sizeLine_eq]; decide
  refine w4_ga (Γ' := [some (.lst (strsD [h, w', n])), some (sh q), some (.int c), some (.str h), some (.str w'), some (.str (shS q ++ ": ")), some (.lst ((odP2 h w' n (shS q)).map oddD))]) rfl ?_
  refine w4_set (i := 6) sc_law_odd.nd rfl (.inl rfl) (p4_eq (d := .lst ((odP3 h w' n (shS q)).map oddD)) (p4_cat (p4_var (i := 6) rfl (.inl rfl) rfl) (p4_lst (l4_cons (p4_tup (l4_cons p4_int (l4_cons (p4_catS (p4_catS (p4_catS (p4_catS (p4_var (i := 3) rfl (.inl rfl) rfl) p4_str (by simp only [len_app, ll_0, ll_7, ll_21, sizeLine_eq]; omega)) (p4_eq (p4_cutS (p4_var (i := 5) rfl (.inl rfl) rfl) (by simp only [len_app, ll_0, ll_7, ll_21, sizeLine_eq]; omega)) (congrArg D.str slice_two)) (by simp only [len_app, ll_0, ll_7, ll_21, sizeLine_eq]; omega)) p4_str (by simp only [len_app, ll_0, ll_7, ll_21, sizeLine_eq]; omega)) (p4_var (i := 4) rfl (.inl rfl) rfl) (by simp only [len_app, ll_0, ll_7, ll_21, sizeLine_eq]; omega)) (l4_cons p4_int l4_nil)))) (l4_cons (p4_tup (l4_cons p4_int (l4_cons (p4_catS (p4_catS (p4_catS (p4_var (i := 3) rfl (.inl rfl) rfl) p4_str (by simp only [len_app, ll_0, ll_7, ll_21, sizeLine_eq]; omega)) (p4_var (i := 5) rfl (.inl rfl) rfl) (by simp only [len_app, ll_0, ll_7, ll_21, sizeLine_eq]; omega)) (p4_var (i := 4) rfl (.inl rfl) rfl) (by simp only [len_app, ll_0, ll_7, ll_21, sizeLine_eq]; omega)) (l4_cons p4_int l4_nil)))) l4_nil))) ?_) (by unfold odP3; rw [List.map_append]; rfl)) ?_
  · rw [odl2]; simp only [List.length_cons, List.length_nil, sizeLine_eq]; decide
  refine w4_ga (Γ' := [some (.lst (strsD [h, w', n])), some (sh q), some (.int c), some (.str h), some (.str w'), some (.str (shS q ++ ": ")), some (.lst ((odP3 h w' n (shS q)).map oddD))]) rfl ?_
  refine w4_set (i := 6) sc_law_odd.nd rfl (.inl rfl) (p4_eq (d := .lst ((odP4 h w' n (shS q)).map oddD)) (p4_cat (p4_var (i := 6) rfl (.inl rfl) rfl) (p4_lst (l4_cons (p4_tup (l4_cons p4_int (l4_cons (p4_catS (p4_catS (p4_var (i := 3) rfl (.inl rfl) rfl) p4_str (by simp only [len_app, ll_0, ll_7, sizeLine_eq]; omega)) (p4_var (i := 5) rfl (.inl rfl) rfl) (by simp only [len_app, ll_0, ll_7, sizeLine_eq]; omega)) (l4_cons p4_int l4_nil)))) (l4_cons (p4_tup (l4_cons p4_int (l4_cons (p4_catS (p4_catS (p4_catS (p4_catS (p4_var (i := 3) rfl (.inl rfl) rfl) p4_str (by simp only [len_app, ll_0, ll_7, sizeLine_eq]; omega)) (p4_var (i := 5) rfl (.inl rfl) rfl) (by simp only [len_app, ll_0, ll_7, sizeLine_eq]; omega)) (p4_var (i := 4) rfl (.inl rfl) rfl) (by simp only [len_app, ll_0, ll_7, sizeLine_eq]; omega)) p4_str (by simp only [len_app, ll_0, ll_7, sizeLine_eq]; omega)) (l4_cons p4_int l4_nil)))) l4_nil))) ?_) (by unfold odP4; rw [List.map_append]; rfl)) ?_
  · rw [odl3]; simp only [List.length_cons, List.length_nil, sizeLine_eq]; decide
  refine w4_ga (Γ' := [some (.lst (strsD [h, w', n])), some (sh q), some (.int c), some (.str h), some (.str w'), some (.str (shS q ++ ": ")), some (.lst ((odP4 h w' n (shS q)).map oddD))]) rfl ?_
  refine w4_set (i := 6) sc_law_odd.nd rfl (.inl rfl) (p4_eq (d := .lst ((odP5 h w' n (shS q)).map oddD)) (p4_cat (p4_var (i := 6) rfl (.inl rfl) rfl) (p4_lst (l4_cons (p4_tup (l4_cons p4_int (l4_cons (p4_catS (p4_catS (p4_catS (p4_catS (p4_var (i := 3) rfl (.inl rfl) rfl) p4_str (by simp only [len_app, ll_0, ll_7, ll_9, sizeLine_eq]; omega)) (p4_var (i := 5) rfl (.inl rfl) rfl) (by simp only [len_app, ll_0, ll_7, ll_9, sizeLine_eq]; omega)) p4_str (by simp only [len_app, ll_0, ll_7, ll_9, sizeLine_eq]; omega)) (p4_var (i := 4) rfl (.inl rfl) rfl) (by simp only [len_app, ll_0, ll_7, ll_9, sizeLine_eq]; omega)) (l4_cons p4_int l4_nil)))) (l4_cons (p4_tup (l4_cons p4_int (l4_cons (p4_catS (p4_catS (p4_catS (p4_var (i := 3) rfl (.inl rfl) rfl) p4_str (by simp only [len_app, ll_0, ll_7, ll_9, sizeLine_eq]; omega)) (p4_var (i := 5) rfl (.inl rfl) rfl) (by simp only [len_app, ll_0, ll_7, ll_9, sizeLine_eq]; omega)) p4_str (by simp only [len_app, ll_0, ll_7, ll_9, sizeLine_eq]; omega)) (l4_cons p4_int l4_nil)))) l4_nil))) ?_) (by unfold odP5; rw [List.map_append]; rfl)) ?_
  · rw [odl4]; simp only [List.length_cons, List.length_nil, sizeLine_eq]; decide
  refine w4_ga (Γ' := [some (.lst (strsD [h, w', n])), some (sh q), some (.int c), some (.str h), some (.str w'), some (.str (shS q ++ ": ")), some (.lst ((odP5 h w' n (shS q)).map oddD))]) rfl ?_
  refine w4_set (i := 6) sc_law_odd.nd rfl (.inl rfl) (p4_eq (d := .lst ((odP6 h w' n (shS q)).map oddD)) (p4_cat (p4_var (i := 6) rfl (.inl rfl) rfl) (p4_lst (l4_cons (p4_tup (l4_cons p4_int (l4_cons p4_str (l4_cons p4_int l4_nil)))) (l4_cons (p4_tup (l4_cons p4_int (l4_cons (p4_catS (p4_catS (p4_catS (p4_var (i := 3) rfl (.inl rfl) rfl) p4_str (by simp only [len_app, ll_0, ll_5, ll_22, sizeLine_eq]; omega)) (p4_var (i := 5) rfl (.inl rfl) rfl) (by simp only [len_app, ll_0, ll_5, ll_22, sizeLine_eq]; omega)) (p4_var (i := 4) rfl (.inl rfl) rfl) (by simp only [len_app, ll_0, ll_5, ll_22, sizeLine_eq]; omega)) (l4_cons p4_int l4_nil)))) l4_nil))) ?_) (by unfold odP6; rw [List.map_append]; rfl)) ?_
  · rw [odl5]; simp only [List.length_cons, List.length_nil, sizeLine_eq]; decide
  refine w4_ga (Γ' := [some (.lst (strsD [h, w', n])), some (sh q), some (.int c), some (.str h), some (.str w'), some (.str (shS q ++ ": ")), some (.lst ((odP6 h w' n (shS q)).map oddD))]) rfl ?_
  refine w4_set (i := 6) sc_law_odd.nd rfl (.inl rfl) (p4_eq (d := .lst ((odP7 h w' n (shS q)).map oddD)) (p4_cat (p4_var (i := 6) rfl (.inl rfl) rfl) (p4_lst (l4_cons (p4_tup (l4_cons p4_int (l4_cons (p4_catS (p4_catS (p4_var (i := 3) rfl (.inl rfl) rfl) p4_str (by simp only [len_app, ll_0, ll_13, ll_14, sizeLine_eq]; omega)) (p4_var (i := 4) rfl (.inl rfl) rfl) (by simp only [len_app, ll_0, ll_13, ll_14, sizeLine_eq]; omega)) (l4_cons p4_int l4_nil)))) (l4_cons (p4_tup (l4_cons p4_int (l4_cons (p4_catS (p4_catS (p4_var (i := 3) rfl (.inl rfl) rfl) p4_str (by simp only [len_app, ll_0, ll_13, ll_14, sizeLine_eq]; omega)) (p4_var (i := 4) rfl (.inl rfl) rfl) (by simp only [len_app, ll_0, ll_13, ll_14, sizeLine_eq]; omega)) (l4_cons p4_int l4_nil)))) l4_nil))) ?_) (by unfold odP7; rw [List.map_append]; rfl)) ?_
  · rw [odl6]; simp only [List.length_cons, List.length_nil, sizeLine_eq]; decide
  refine w4_ga (Γ' := [some (.lst (strsD [h, w', n])), some (sh q), some (.int c), some (.str h), some (.str w'), some (.str (shS q ++ ": ")), some (.lst ((odP7 h w' n (shS q)).map oddD))]) rfl ?_
  refine w4_set (i := 6) sc_law_odd.nd rfl (.inl rfl) (p4_eq (d := .lst ((odP8 h w' n (shS q)).map oddD)) (p4_cat (p4_var (i := 6) rfl (.inl rfl) rfl) (p4_lst (l4_cons (p4_tup (l4_cons p4_int (l4_cons (p4_catS (p4_catS (p4_catS (p4_catS (p4_var (i := 3) rfl (.inl rfl) rfl) p4_str (by simp only [len_app, ll_0, ll_23, ll_26, ll_27, ll_r, sizeLine_eq]; omega)) (p4_repS (k := 61) p4_str (p4_eq p4_int rfl) (by decide) (by simp only [len_app, ll_0, ll_23, ll_26, ll_27, ll_r, sizeLine_eq]; omega)) (by simp only [len_app, ll_0, ll_23, ll_26, ll_27, ll_r, sizeLine_eq]; omega)) p4_str (by simp only [len_app, ll_0, ll_23, ll_26, ll_27, ll_r, sizeLine_eq]; omega)) (p4_var (i := 4) rfl (.inl rfl) rfl) (by simp only [len_app, ll_0, ll_23, ll_26, ll_27, ll_r, sizeLine_eq]; omega)) (l4_cons p4_int l4_nil)))) (l4_cons (p4_tup (l4_cons p4_int (l4_cons (p4_catS (p4_catS (p4_catS (p4_var (i := 3) rfl (.inl rfl) rfl) p4_str (by simp only [len_app, ll_0, ll_23, ll_26, ll_27, ll_r, sizeLine_eq]; omega)) (p4_var (i := 5) rfl (.inl rfl) rfl) (by simp only [len_app, ll_0, ll_23, ll_26, ll_27, ll_r, sizeLine_eq]; omega)) (p4_var (i := 4) rfl (.inl rfl) rfl) (by simp only [len_app, ll_0, ll_23, ll_26, ll_27, ll_r, sizeLine_eq]; omega)) (l4_cons p4_int l4_nil)))) l4_nil))) ?_) (by unfold odP8; rw [List.map_append]; rfl)) ?_
  · rw [odl7]; simp only [List.length_cons, List.length_nil, sizeLine_eq]; decide
  refine w4_ga (Γ' := [some (.lst (strsD [h, w', n])), some (sh q), some (.int c), some (.str h), some (.str w'), some (.str (shS q ++ ": ")), some (.lst ((odP8 h w' n (shS q)).map oddD))]) rfl ?_
  refine w4_set (i := 6) sc_law_odd.nd rfl (.inl rfl) (p4_eq (d := .lst ((odP9 h w' n (shS q)).map oddD)) (p4_cat (p4_var (i := 6) rfl (.inl rfl) rfl) (p4_lst (l4_cons (p4_tup (l4_cons p4_int (l4_cons (p4_catS (p4_catS (p4_catS (p4_var (i := 3) rfl (.inl rfl) rfl) p4_str (by simp only [len_app, ll_0, ll_15, ll_24, sizeLine_eq]; omega)) (p4_var (i := 5) rfl (.inl rfl) rfl) (by simp only [len_app, ll_0, ll_15, ll_24, sizeLine_eq]; omega)) (p4_var (i := 4) rfl (.inl rfl) rfl) (by simp only [len_app, ll_0, ll_15, ll_24, sizeLine_eq]; omega)) (l4_cons p4_int l4_nil)))) (l4_cons (p4_tup (l4_cons p4_int (l4_cons (p4_catS (p4_catS (p4_var (i := 3) rfl (.inl rfl) rfl) p4_str (by simp only [len_app, ll_0, ll_15, ll_24, sizeLine_eq]; omega)) (p4_var (i := 4) rfl (.inl rfl) rfl) (by simp only [len_app, ll_0, ll_15, ll_24, sizeLine_eq]; omega)) (l4_cons p4_int l4_nil)))) l4_nil))) ?_) (by unfold odP9; rw [List.map_append]; rfl)) ?_
  · rw [odl8]; simp only [List.length_cons, List.length_nil, sizeLine_eq]; decide
  refine w4_ga (Γ' := [some (.lst (strsD [h, w', n])), some (sh q), some (.int c), some (.str h), some (.str w'), some (.str (shS q ++ ": ")), some (.lst ((odP9 h w' n (shS q)).map oddD))]) rfl ?_
  refine w4_set (i := 6) sc_law_odd.nd rfl (.inl rfl) (p4_eq (d := .lst ((odP10 h w' n (shS q)).map oddD)) (p4_cat (p4_var (i := 6) rfl (.inl rfl) rfl) (p4_lst (l4_cons (p4_tup (l4_cons p4_int (l4_cons (p4_catS (p4_catS (p4_var (i := 3) rfl (.inl rfl) rfl) p4_str (by simp only [len_app, ll_0, ll_7, ll_16, rep_lenS, sizeLine_eq]; omega)) (p4_var (i := 4) rfl (.inl rfl) rfl) (by simp only [len_app, ll_0, ll_7, ll_16, rep_lenS, sizeLine_eq]; omega)) (l4_cons p4_int l4_nil)))) (l4_cons (p4_tup (l4_cons p4_int (l4_cons (p4_catS (p4_catS (p4_catS (p4_catS (p4_var (i := 3) rfl (.inl rfl) rfl) p4_str (by simp only [len_app, ll_0, ll_7, ll_16, rep_lenS, sizeLine_eq]; omega)) (p4_var (i := 5) rfl (.inl rfl) rfl) (by simp only [len_app, ll_0, ll_7, ll_16, rep_lenS, sizeLine_eq]; omega)) (p4_repS (k := 4) (p4_catS (p4_var (i := 4) rfl (.inl rfl) rfl) p4_str (by simp only [len_app, ll_0, ll_7, ll_16, rep_lenS, sizeLine_eq]; omega)) (p4_eq p4_int rfl) (by decide) (by simp only [len_app, ll_0, ll_7, ll_16, rep_lenS, sizeLine_eq]; omega)) (by simp only [len_app, ll_0, ll_7, ll_16, rep_lenS, sizeLine_eq]; omega)) (p4_var (i := 4) rfl (.inl rfl) rfl) (by simp only [len_app, ll_0, ll_7, ll_16, rep_lenS, sizeLine_eq]; omega)) (l4_cons p4_int l4_nil)))) l4_nil))) ?_) (by unfold odP10; rw [List.map_append]; rfl)) ?_
  · rw [odl9]; simp only [List.length_cons, List.length_nil, sizeLine_eq]; decide
  refine w4_ga (Γ' := [some (.lst (strsD [h, w', n])), some (sh q), some (.int c), some (.str h), some (.str w'), some (.str (shS q ++ ": ")), some (.lst ((odP10 h w' n (shS q)).map oddD))]) rfl ?_
  refine w4_set (i := 6) sc_law_odd.nd rfl (.inl rfl) (p4_eq (d := .lst ((odP11 h w' n (shS q)).map oddD)) (p4_cat (p4_var (i := 6) rfl (.inl rfl) rfl) (p4_lst (l4_cons (p4_tup (l4_cons p4_int (l4_cons (p4_catS (p4_catS (p4_catS (p4_catS p4_str (p4_var (i := 3) rfl (.inl rfl) rfl) (by simp only [len_app, ll_0, ll_7, ll_17, sizeLine_eq]; omega)) p4_str (by simp only [len_app, ll_0, ll_7, ll_17, sizeLine_eq]; omega)) (p4_var (i := 5) rfl (.inl rfl) rfl) (by simp only [len_app, ll_0, ll_7, ll_17, sizeLine_eq]; omega)) (p4_var (i := 4) rfl (.inl rfl) rfl) (by simp only [len_app, ll_0, ll_7, ll_17, sizeLine_eq]; omega)) (l4_cons p4_int l4_nil)))) (l4_cons (p4_tup (l4_cons p4_int (l4_cons (p4_catS (p4_catS (p4_var (i := 3) rfl (.inl rfl) rfl) p4_str (by simp only [len_app, ll_0, ll_7, ll_17, sizeLine_eq]; omega)) (p4_var (i := 4) rfl (.inl rfl) rfl) (by simp only [len_app, ll_0, ll_7, ll_17, sizeLine_eq]; omega)) (l4_cons p4_int l4_nil)))) l4_nil))) ?_) (by unfold odP11; rw [List.map_append]; rfl)) ?_
  · rw [odl10]; simp only [List.length_cons, List.length_nil, sizeLine_eq]; decide
  refine w4_ga (Γ' := [some (.lst (strsD [h, w', n])), some (sh q), some (.int c), some (.str h), some (.str w'), some (.str (shS q ++ ": ")), some (.lst ((odP11 h w' n (shS q)).map oddD))]) rfl ?_
  refine w4_set (i := 6) sc_law_odd.nd rfl (.inl rfl) (p4_eq (d := .lst ((odP12 h w' n (shS q)).map oddD)) (p4_cat (p4_var (i := 6) rfl (.inl rfl) rfl) (p4_lst (l4_cons (p4_tup (l4_cons p4_int (l4_cons (p4_catS p4_str (p4_ixL (d := .str n) (p4_var (i := 0) rfl (.inl rfl) rfl) p4_int ?_) (by simp only [len_app, ll_0, ll_5, ll_10, sizeLine_eq]; omega)) (l4_cons p4_int l4_nil)))) (l4_cons (p4_tup (l4_cons p4_int (l4_cons p4_str (l4_cons p4_int l4_nil)))) l4_nil))) ?_) (by unfold odP12; rw [List.map_append]; rfl)) ?_
  · exact atI_nat (j := 2) rfl
  · rw [odl11]; simp only [List.length_cons, List.length_nil, sizeLine_eq]; decide
  refine w4_ga (Γ' := [some (.lst (strsD [h, w', n])), some (sh q), some (.int c), some (.str h), some (.str w'), some (.str (shS q ++ ": ")), some (.lst ((odP12 h w' n (shS q)).map oddD))]) rfl ?_
  refine w4_set (i := 6) sc_law_odd.nd rfl (.inl rfl) (p4_eq (d := .lst ((odP13 h w' n (shS q)).map oddD)) (p4_cat (p4_var (i := 6) rfl (.inl rfl) rfl) (p4_lst (l4_cons (p4_tup (l4_cons p4_int (l4_cons p4_str (l4_cons p4_int l4_nil)))) l4_nil)) ?_) (by unfold odP13; rw [List.map_append]; rfl)) ?_
  · rw [odl12]; simp only [List.length_cons, List.length_nil, sizeLine_eq]; decide
  refine w4_ga (Γ' := [some (.lst (strsD [h, w', n])), some (sh q), some (.int c), some (.str h), some (.str w'), some (.str (shS q ++ ": ")), some (.lst ((odP13 h w' n (shS q)).map oddD))]) rfl ?_
  refine w4_set (i := 6) sc_law_odd.nd rfl (.inl rfl) (p4_eq (d := .lst ((odP14 h w' n (shS q)).map oddD)) (p4_cat (p4_var (i := 6) rfl (.inl rfl) rfl) (p4_lst (l4_cons (p4_tup (l4_cons p4_int (l4_cons (p4_catS (p4_catS (p4_var (i := 3) rfl (.inl rfl) rfl) p4_str (by simp only [len_app, ll_0, ll_18, ll_19, ll_20, sizeLine_eq]; omega)) (p4_var (i := 4) rfl (.inl rfl) rfl) (by simp only [len_app, ll_0, ll_18, ll_19, ll_20, sizeLine_eq]; omega)) (l4_cons p4_int l4_nil)))) (l4_cons (p4_tup (l4_cons p4_int (l4_cons (p4_catS (p4_catS (p4_var (i := 3) rfl (.inl rfl) rfl) p4_str (by simp only [len_app, ll_0, ll_18, ll_19, ll_20, sizeLine_eq]; omega)) (p4_var (i := 4) rfl (.inl rfl) rfl) (by simp only [len_app, ll_0, ll_18, ll_19, ll_20, sizeLine_eq]; omega)) (l4_cons p4_int l4_nil)))) (l4_cons (p4_tup (l4_cons p4_int (l4_cons (p4_catS (p4_catS p4_str (p4_var (i := 5) rfl (.inl rfl) rfl) (by simp only [len_app, ll_0, ll_18, ll_19, ll_20, sizeLine_eq]; omega)) (p4_var (i := 4) rfl (.inl rfl) rfl) (by simp only [len_app, ll_0, ll_18, ll_19, ll_20, sizeLine_eq]; omega)) (l4_cons p4_int l4_nil)))) l4_nil)))) ?_) (by unfold odP14; rw [List.map_append]; rfl)) ?_
  · rw [odl13]; simp only [List.length_cons, List.length_nil, sizeLine_eq]; decide
  refine w4_ga (Γ' := [some (.lst (strsD [h, w', n])), some (sh q), some (.int c), some (.str h), some (.str w'), some (.str (shS q ++ ": ")), some (.lst ((odP14 h w' n (shS q)).map oddD))]) rfl ?_
  refine w4_set (i := 6) sc_law_odd.nd rfl (.inl rfl) (p4_eq (d := .lst ((odP15 h w' n (shS q)).map oddD)) (p4_cat (p4_var (i := 6) rfl (.inl rfl) rfl) (p4_lst (l4_cons (p4_tup (l4_cons p4_int (l4_cons (p4_catS (p4_catS (p4_catS (p4_var (i := 3) rfl (.inl rfl) rfl) p4_str (by simp only [len_app, ll_0, ll_7, ll_25, ll_26, ll_c, sizeLine_eq]; omega)) (p4_eq (p4_cutS (p4_var (i := 5) rfl (.inl rfl) rfl) (by simp only [len_app, ll_0, ll_7, ll_25, ll_26, ll_c, sizeLine_eq]; omega)) (congrArg D.str slice_one)) (by simp only [len_app, ll_0, ll_7, ll_25, ll_26, ll_c, sizeLine_eq]; omega)) (p4_var (i := 4) rfl (.inl rfl) rfl) (by simp only [len_app, ll_0, ll_7, ll_25, ll_26, ll_c, sizeLine_eq]; omega)) (l4_cons p4_int l4_nil)))) (l4_cons (p4_tup (l4_cons p4_int (l4_cons (p4_catS (p4_catS (p4_catS (p4_catS (p4_var (i := 3) rfl (.inl rfl) rfl) p4_str (by simp only [len_app, ll_0, ll_7, ll_25, ll_26, ll_c, sizeLine_eq]; omega)) p4_str (by simp only [len_app, ll_0, ll_7, ll_25, ll_26, ll_c, sizeLine_eq]; omega)) p4_str (by simp only [len_app, ll_0, ll_7, ll_25, ll_26, ll_c, sizeLine_eq]; omega)) (p4_var (i := 4) rfl (.inl rfl) rfl) (by simp only [len_app, ll_0, ll_7, ll_25, ll_26, ll_c, sizeLine_eq]; omega)) (l4_cons p4_int l4_nil)))) l4_nil))) ?_) (by unfold odP15; rw [List.map_append]; rfl)) ?_
  · rw [odl14]; simp only [List.length_cons, List.length_nil, sizeLine_eq]; decide
  refine w4_ga (Γ' := [some (.lst (strsD [h, w', n])), some (sh q), some (.int c), some (.str h), some (.str w'), some (.str (shS q ++ ": ")), some (.lst ((odP15 h w' n (shS q)).map oddD))]) rfl ?_
  refine w4_set (i := 6) sc_law_odd.nd rfl (.inl rfl) (p4_eq (d := .lst ((odP16 h w' n (shS q)).map oddD)) (p4_cat (p4_var (i := 6) rfl (.inl rfl) rfl) (p4_lst (l4_cons (p4_tup (l4_cons p4_int (l4_cons (p4_catS p4_str (p4_var (i := 3) rfl (.inl rfl) rfl) (by simp only [len_app, ll_0, ll_5, ll_11, ll_12, sizeLine_eq]; omega)) (l4_cons p4_int l4_nil)))) (l4_cons (p4_tup (l4_cons p4_int (l4_cons (p4_catS p4_str (p4_var (i := 3) rfl (.inl rfl) rfl) (by simp only [len_app, ll_0, ll_5, ll_11, ll_12, sizeLine_eq]; omega)) (l4_cons p4_int l4_nil)))) (l4_cons (p4_tup (l4_cons p4_int (l4_cons p4_str (l4_cons p4_int l4_nil)))) (l4_cons (p4_tup (l4_cons p4_int (l4_cons p4_str (l4_cons p4_int l4_nil)))) (l4_cons (p4_tup (l4_cons p4_int (l4_cons p4_str (l4_cons p4_int l4_nil)))) l4_nil)))))) ?_) (by unfold odP16; rw [List.map_append]; rfl)) ?_
  · rw [odl15]; simp only [List.length_cons, List.length_nil, sizeLine_eq]; decide
  refine w4_ga (Γ' := [some (.lst (strsD [h, w', n])), some (sh q), some (.int c), some (.str h), some (.str w'), some (.str (shS q ++ ": ")), some (.lst ((odP16 h w' n (shS q)).map oddD))]) rfl ?_
  refine w4_in ?_
  have l37 : ((odP16 h w' n (shS q)).map oddD).length = 37 := odl16
  refine w_ret (p_ixL (d := oddD e) (p_var (i := 6) rfl (.inl rfl) rfl) (p_mod (p_var (i := 2) rfl (.inl rfl) rfl) (p_lenL z.len rfl (p_var (i := 6) rfl (.inl rfl) rfl)) ?_) ?_) ?_
  · rw [l37]; decide
  · rw [l37]
    have m := emod_in (a := c) (show (0 : Int) < 37 by decide)
    obtain ⟨j, hj⟩ := Int.eq_ofNat_of_zero_le m.1
    have hj' : c % ((37 : Nat) : Int) = (j : Int) := hj
    rw [hj']
    refine atI_nat ?_
    have hj2 : (c % 37).toNat = j := by rw [hj]; rfl
    rw [hj2] at he
    unfold oddL at he
    rw [List.getElem?_map, he]
    rfl
  · rfl
end
end Law
set_option Elab.async false
set_option linter.all false
set_option maxRecDepth 100000
set_option maxHeartbeats 4000000
namespace Law
open PySem L2 L3
section
variable {P : Program} {w : World} {K : PySem.W.Frag} {mg : Str → Option Value} {base : Heap} {C_Grammar : Addr}
theorem ok_law_cell_at (z : Zs mg) (d : DefK K mg "_law_cell_at" s_law_cell_at ["_law_script", "_law_k"])  : OkF P w K mg base CX0 2 "_law_cell_at" ["_law_script", "_law_k"] (spP K 2 C_cell) := by
  refine ok_pure d sc_law_cell_at rfl fun f cdv A outer s H E hr ds r hC B hB => ?_
  obtain ⟨ns, k, rfl, rfl⟩ := hC
  refine w_if (t_cmp (c_lt (p_var (i := 1) rfl (.inl rfl) rfl) (p_lenI z.len rfl (p_var (i := 0) rfl (.inl rfl) rfl)))) ?_ ?_
  · intro hk
    have hk := of_decide_eq_true hk
    refine w_ret (p_ixI (n := ns.getD k 0) (p_var (i := 0) rfl (.inl rfl) rfl) (p_var (i := 1) rfl (.inl rfl) rfl) ?_) ?_
    · have hk' : k < ns.length := by omega
      show atI ns (k : Int) = some (ns.getD k 0)
      unfold atI ixN
      rw [if_pos (by omega), if_pos (by omega)]
      show ns[((k : Int)).toNat]? = _
      rw [Int.toNat_natCast, List.getD_eq_getElem?_getD, List.getElem?_eq_getElem hk']
      rfl
    · rfl
  · intro hk
    have hk := of_decide_eq_false hk
    refine w_nil ?_
    refine w_ret p_int ?_
    show D.int 0 = D.int (ns.getD k 0)
    rw [List.getD_eq_getElem?_getD, List.getElem?_eq_none_iff.mpr (by omega)]
    rfl
theorem ok_law_share (ht : P.given.tree = none) (d : DefK K mg "_law_share" s_law_share ["_law_top", "_law_bottom"])  : OkF P w K mg base CX0 33 "_law_share" ["_law_top", "_law_bottom"] (spP K 2 C_share) := by
  refine ok_pure d sc_law_share rfl fun f cdv A outer s H E hr ds r hC B hB => ?_
  obtain ⟨t, b, rfl, rfl, h1, h2⟩ := hC
  have py : Pyl (cx0 P w K mg base ["_law_top", "_law_bottom", "_law_one", "_law_other", "_law_rest"] "_law_share" s_law_share f cdv A outer s H E) := (pyl_cx ht rfl rfl hr (Nat.le_refl _)).nox
  have g0 := My.G_pos (a := t) h2
  refine w_set (i := 2) sc_law_share.nd rfl (.inl rfl) (p_var (i := 0) rfl (.inl rfl) rfl) ?_
  refine w_set (i := 3) sc_law_share.nd rfl (.inl rfl) (p_var (i := 1) rfl (.inl rfl) rfl) ?_
  refine w_while PassesOwn.never (fun Γ _ => ∃ (x y : Int) (z : Option D), Γ = [some (.int t), some (.int b), some (.int x), some (.int y), z] ∧ 0 ≤ x ∧ 0 ≤ y ∧ My.G x y = My.G t b) (fun Γ _ => match Γ with | [_, _, _, some (.int y), _] => y.toNat | _ => 0) ⟨t, b, none, rfl, h1, Int.le_of_lt h2, rfl⟩ ?_
  rintro Γ Ω ⟨x, y, z, rfl, hx, hy, hg⟩
  refine ⟨_, (t_cmp (c_gt (p_var (i := 3) rfl (.inl rfl) rfl) p_int)), fun hk => ?_, fun hk => ?_⟩
  · have hk := of_decide_eq_true hk
    refine w_set (i := 4) sc_law_share.nd rfl (.inl rfl) (p_mod (p_var (i := 2) rfl (.inl rfl) rfl) (p_var (i := 3) rfl (.inl rfl) rfl) ?_) ?_
    · exact hk
    refine w_set (i := 2) sc_law_share.nd rfl (.inl rfl) (p_var (i := 3) rfl (.inl rfl) rfl) ?_
    refine w_set (i := 3) sc_law_share.nd rfl (.inl rfl) (p_var (i := 4) rfl (.inl rfl) rfl) ?_
    refine w_nil ⟨⟨y, x % y, _, rfl, hy, (emod_in hk).1, (G_turnE hx hk).trans hg⟩, ?_⟩
    have := emod_in (a := x) hk
    show (x % y).toNat < y.toNat
    omega
  · have hk := of_decide_eq_false hk
    have y0 : y = 0 := by omega
    subst y0
    rw [My.G_end hx] at hg
    subst hg
    refine w_ret (p_tup (pl_cons (p_fdivP py (p_var (i := 0) rfl (.inl rfl) rfl) (p_var (i := 2) rfl (.inl rfl) rfl) ?_) (pl_cons (p_fdivP py (p_var (i := 1) rfl (.inl rfl) rfl) (p_var (i := 2) rfl (.inl rfl) rfl) ?_) pl_nil))) ?_
    · exact g0
    · exact g0
    show D.tup [D.int (t / My.G t b), D.int (b / My.G t b)] = sh (Rat.divInt t b)
    unfold sh
    rw [← My.num_share h2, ← My.den_share h2, Int.fdiv_eq_ediv_of_nonneg _ (Int.le_of_lt g0), Int.fdiv_eq_ediv_of_nonneg _ (Int.le_of_lt g0)]
theorem ok_law_symbols (ht : P.given.tree = none) (z : Zs mg) (d : DefK K mg "_law_symbols" s_law_symbols ["_law_cell", "_law_many"])  : OkF P w K mg base CX0 33 "_law_symbols" ["_law_cell", "_law_many"] (spP K 2 C_symbols) := by
  refine ok_pure d sc_law_symbols rfl fun f cdv A outer s H E hr ds r hC B hB => ?_
  obtain ⟨c, m, rfl, rfl, hm⟩ := hC
  have py : Pyl (cx0 P w K mg base ["_law_cell", "_law_many", "_law_letters", "_law_size", "_law_at", "_law_out", "_law_k", "_law_name", "_law_place", "_law_step"] "_law_symbols" s_law_symbols f cdv A outer s H E) := (pyl_cx ht rfl rfl hr (Nat.le_refl _)).nox
  refine w_set (i := 2) sc_law_symbols.nd rfl (.inl rfl) p_str ?_
  refine w_set (i := 3) sc_law_symbols.nd rfl (.inl rfl) (p_add p_int (p_mod (p_var (i := 0) rfl (.inl rfl) rfl) p_int ?_)) ?_
  · decide
  have p8 : 0 < 1 + c % 8 := by omega
  refine w_set (i := 4) sc_law_symbols.nd rfl (.inl rfl) (p_mod (p_fdivP py (p_var (i := 0) rfl (.inl rfl) rfl) p_int ?_) (p_var (i := 3) rfl (.inl rfl) rfl) ?_) ?_
  · decide
  · exact p8
  refine w_own (i := 5) sc_law_symbols.nd rfl (.inl rfl) (pf_lst pl_nil) fun l => ?_
  refine w_for PassesOwn.never rfl (i_rangeN (n := m) z.range rfl (p_var (i := 1) rfl (.inl rfl) rfl) ?_ ?_) (fun k Γ Ω => ∃ x6 x7 x8 x9, Γ = [some (.int c), some (.int (m : Int)), some (.str letS), some (.int (1 + c % 8)), some (.int (c / 8 % (1 + c % 8))), some (.raw (.ref l)), x6, x7, x8, x9] ∧ Ω = [(l, oLst K (strsD ((List.range k).map (symS c))))]) ?_ ?_ ?_
  · rfl
  · omega
  · exact ⟨_, _, _, _, rfl, rfl⟩
  · rintro k d Γ Ω hd ⟨x6, x7, x8, x9, rfl, rfl⟩
    obtain ⟨hk, rfl⟩ := nums_lt hd
    rw [Nat.zero_add]
    refine ⟨_, (g_name (i := 6) sc_law_symbols.nd rfl (.inl rfl)), ?_⟩
    refine w_set (i := 7) sc_law_symbols.nd rfl (.inl rfl) p_str ?_
    refine w_for PassesOwn.never rfl (i_rangeN (n := szC c) z.range rfl (p_var (i := 3) rfl (.inl rfl) rfl) ?_ ?_) (fun p Γ Ω => ∃ x8 x9, Γ = [some (.int c), some (.int (m : Int)), some (.str letS), some (.int (1 + c % 8)), some (.int (c / 8 % (1 + c % 8))), some (.raw (.ref l)), some (.int (k : Int)), some (.str ⟨(symL c k p).toArray⟩), x8, x9] ∧ Ω = [(l, oLst K (strsD ((List.range k).map (symS c))))]) ?_ ?_ ?_
    · exact (szC_eq c).symm
    · have := szC_in c; omega
    · exact ⟨_, _, rfl, rfl⟩
    · rintro p d Γ Ω hd ⟨x8, x9, rfl, rfl⟩
      obtain ⟨hp, rfl⟩ := nums_lt hd
      rw [Nat.zero_add]
      have hz := szC_in c
      refine ⟨_, (g_name (i := 8) sc_law_symbols.nd rfl (.inl rfl)), ?_⟩
      refine w_set (i := 9) sc_law_symbols.nd rfl (.inl rfl) (p_add (p_mod (p_fdivP py (p_var (i := 0) rfl (.inl rfl) rfl) p_int ?_) p_int ?_) (p_mul p_int (p_var (i := 8) rfl (.inl rfl) rfl) ?_)) ?_
      · decide
      · decide
      · exact mul_small (by omega)
      refine w_if2 (fun Γ Ω => ∃ q : Int, q = (stp c k p : Nat) ∧ Γ = [some (.int c), some (.int (m : Int)), some (.str letS), some (.int (1 + c % 8)), some (.int (c / 8 % (1 + c % 8))), some (.raw (.ref l)), some (.int (k : Int)), some (.str ⟨(symL c k p).toArray⟩), some (.int (p : Int)), some (.int q)] ∧ Ω = [(l, oLst K (strsD ((List.range k).map (symS c))))]) (t_cmp (c_eqI (p_var (i := 8) rfl (.inl rfl) rfl) (p_var (i := 4) rfl (.inl rfl) rfl))) ?_ ?_ ?_
      · intro hk2
        have hk2 := of_decide_eq_true hk2
        refine w_set (i := 9) sc_law_symbols.nd rfl (.inl rfl) (p_add (p_var (i := 9) rfl (.inl rfl) rfl) (p_var (i := 6) rfl (.inl rfl) rfl)) ?_
        refine w_nil ⟨_, ?_, rfl, rfl⟩
        unfold stp
        rw [if_pos (by have := atC_eq c; omega)]
        have := bsC_eq c
        push_cast
        omega
      · intro hk2
        have hk2 := of_decide_eq_false hk2
        refine w_nil ⟨_, ?_, rfl, rfl⟩
        unfold stp
        rw [if_neg (by have := atC_eq c; omega)]
        have := bsC_eq c
        push_cast
        omega
      · rintro Γ Ω ⟨q, hq, rfl, rfl⟩
        refine w_set (i := 7) sc_law_symbols.nd rfl (.inl rfl) (p_catS (p_var (i := 7) rfl (.inl rfl) rfl) (p_ixS (c := lt (stp c k p % 52)) (p_var (i := 2) rfl (.inl rfl) rfl) (p_mod (p_var (i := 9) rfl (.inl rfl) rfl) p_int ?_) ?_ ?_) ?_) ?_
        · decide
        · decide +kernel
        · exact atI_let q hq
        · rw [sizeLine_eq]
          show (symL c k p).toArray.size + 1 ≤ _
          rw [List.size_toArray, symL_len]
          omega
        exact w_nil ⟨_, _, by rw [symL_succ, ← str_snoc]; rfl, rfl⟩
    · rintro Γ Ω ⟨x8, x9, rfl, rfl⟩
      rw [nums_len]
      refine w_append (i := 5) rfl (.inl rfl) rfl (p_var (i := 7) rfl (.inl rfl) rfl) (by rw [strsD_len, List.length_map, List.length_range, sizeLine_eq]; omega) ?_
      refine w_nil ⟨_, _, _, _, rfl, ?_⟩
      rw [List.range_succ, List.map_append]
      unfold strsD
      rw [List.map_append]
      rfl
  · rintro Γ Ω ⟨x6, x7, x8, x9, rfl, rfl⟩
    rw [nums_len]
    refine w_freeze (i := 5) rfl ?_
    refine w_ret (p_var (i := 5) rfl (.inl rfl) rfl) ?_
    rfl
end
end Law
set_option Elab.async false
set_option linter.all false
set_option maxRecDepth 100000
set_option maxHeartbeats 4000000
namespace Law
open PySem L2 L3
section
variable {P : Program} {w : World} {K : PySem.W.Frag} {mg : Str → Option Value} {base : Heap} {C_Grammar : Addr}
theorem ok_law (z : Zs mg) {f : Addr} {fd : FuncData} (F : Fun K "law" "law" s_law f fd) (o_law_cell_at : OkF P w K mg base CX0 2 "_law_cell_at" ["_law_script", "_law_k"] (spP K 2 C_cell)) (o_law_symbols : OkF P w K mg base CX0 33 "_law_symbols" ["_law_cell", "_law_many"] (spP K 2 C_symbols)) (o_law_share : OkF P w K mg base CX0 33 "_law_share" ["_law_top", "_law_bottom"] (spP K 2 C_share)) (o_law_kind : OkF P w K mg base CX0 39 "_law_kind" ["_law_text"] (spP K 1 C_kind)) (o_law_odd : OkF P w K mg base CX0 2 "_law_odd" ["_law_names", "_law_own", "_law_cell"] (spP K 3 C_odd)) : FnOk P w K mg base CX0 41 f fd ["_law_script"] (spLaw3 K) := by
  refine ok_law3 (k := 40) F sc_law fun cdv A outer s H E hr ns hlen B hB => ?_
  refine w_set (i := 1) sc_law.nd rfl (.inl rfl) (p_call (d := .lst (strsD [symS (ns.getD 0 0) 0, symS (ns.getD 0 0) 1, symS (ns.getD 0 0) 2])) o_law_symbols (hr.mono (by decide)) rfl (pl_cons (p_call (d := .int (ns.getD 0 0)) o_law_cell_at (hr.mono (by decide)) rfl (pl_cons (p_var (i := 0) rfl (.inl rfl) rfl) (pl_cons p_int pl_nil)) ?_) (pl_cons p_int pl_nil)) ?_) ?_
  · exact ⟨ns, 0, rfl, rfl⟩
  · exact ⟨ns.getD 0 0, 3, rfl, rfl, by decide⟩
  have ma := emod_in (a := ns.getD 1 0) (show (0 : Int) < 9 by decide)
  have mb := emod_in (a := ns.getD 2 0) (show (0 : Int) < 9 by decide)
  refine w_set (i := 2) sc_law.nd rfl (.inr rfl) (p_eq (d := .lst ([1 + ns.getD 1 0 % 9, 1 + ns.getD 2 0 % 9].map D.int)) (p_lst (pl_cons (p_add p_int (p_mod (p_call (d := .int (ns.getD 1 0)) o_law_cell_at (hr.mono (by decide)) rfl (pl_cons (p_var (i := 0) rfl (.inl rfl) rfl) (pl_cons p_int pl_nil)) ?_) p_int ?_)) (pl_cons (p_add p_int (p_mod (p_call (d := .int (ns.getD 2 0)) o_law_cell_at (hr.mono (by decide)) rfl (pl_cons (p_var (i := 0) rfl (.inl rfl) rfl) (pl_cons p_int pl_nil)) ?_) p_int ?_)) pl_nil))) rfl) ?_
  · exact ⟨ns, 1, rfl, rfl⟩
  · decide
  · exact ⟨ns, 2, rfl, rfl⟩
  · decide
  have ha : 1 ≤ 1 + ns.getD 1 0 % 9 ∧ 1 + ns.getD 1 0 % 9 ≤ 9 := by omega
  have hb : 1 ≤ 1 + ns.getD 2 0 % 9 ∧ 1 + ns.getD 2 0 % 9 ≤ 9 := by omega
  clear ma mb
  generalize 1 + ns.getD 1 0 % 9 = a at ha ⊢
  generalize 1 + ns.getD 2 0 % 9 = b at hb ⊢
  have S := sys_mk (c := ns.getD 0 0) ha hb
  have es : [a, b].sum = a + b := by simp
  generalize symS (ns.getD 0 0) 0 = h at S ⊢
  generalize symS (ns.getD 0 0) 1 = w' at S ⊢
  generalize symS (ns.getD 0 0) 2 = n at S ⊢
  refine w_ga (Γ' := [some (.scr ns), some (.lst (strsD [h, w', n])), some (.lst ([a, b].map D.int)), none, none, none, none, none, none, none, none, none]) rfl ?_
  refine w_setC (i := 3) (SX := defScope s_law) (XN := ["_law_script", "_law_names", "_law_parts", "_law_shares", "_law_rows", "_law_bodies", "_law_k", "_law_told", "_law_at", "_law_row", "_law_why", "_law_text"]) (N := ["_law_part", "_law_parts"]) (nt := 1) (caps := [2]) (pre := (fun i => ([a, b].take i).map fun x => sh (Rat.divInt x (a + b))))  ⟨rfl, by decide +kernel, by decide +kernel, by decide +kernel, rfl, by decide +kernel⟩ sc_law.nd rfl (.inl rfl)  (i_list (p_var (i := 2) rfl (.inr (.inl rfl)) rfl)) ?_ ?_ ?_ ?_
  · intro i hi
    rw [List.length_map, List.length_take, sizeLine_eq]
    simp only [List.length_cons, List.length_nil]
    omega
  · rfl
  · intro c i d hd
    rw [List.getElem?_map] at hd
    obtain ⟨x, hx, rfl⟩ := Option.map_eq_some_iff.mp hd
    have hx1 : 1 ≤ x := by
      have := List.mem_of_getElem? hx
      rcases List.mem_cons.mp this with rfl | this
      · exact ha.1
      · rw [List.mem_singleton.mp this]; exact hb.1
    refine ⟨_, (g_name (i := 0) (show List.Nodup (α := Str) ["_law_part", "_law_parts"] by decide +kernel) rfl (.inl rfl)), (Sub.set rfl), .inl ⟨sh (Rat.divInt x (a + b)), ts_nil, (p_call (d := sh (Rat.divInt x (a + b))) o_law_share (hr.mono (by decide)) rfl (pl_cons (p_var (i := 0) rfl (.inl rfl) rfl) (pl_cons (p_sum rfl z.sum rfl (p_var (i := 1) rfl (.inr (.inl rfl)) rfl)) pl_nil)) ?_), ?_⟩⟩
    · exact ⟨x, [a, b].sum, rfl, by rw [es], by omega, by omega⟩
    · dsimp only; rw [take_get hx, List.map_append]; rfl
  refine w_ga (Γ' := [some (.scr ns), some (.lst (strsD [h, w', n])), some (.lst ([a, b].map D.int)), some (.lst [sh (Rat.divInt a (a + b)), sh (Rat.divInt b (a + b))]), none, none, none, none, none, none, none, none]) rfl ?_
  generalize Rat.divInt a (a + b) = q at S ⊢
  generalize Rat.divInt b (a + b) = p at S ⊢
  have lh := sym_len S.sh
  have lw := sym_len S.sw
  have ln := sym_len S.sn
  have l6 : ("start " : Str).length = 6 := by decide +kernel
  have l1 : (" " : Str).length = 1 := by decide +kernel
  have l2 : (": " : Str).length = 2 := by decide +kernel
  have l3 : ("/" : Str).length = 1 := by decide +kernel
  have l0 : ("\n" : Str).length = 1 := by decide +kernel
  refine w_own (i := 4) sc_law.nd rfl (.inl rfl) (pf_lst (pl_cons (p_catS p_str (p_ixL (d := .str h) (p_var (i := 1) rfl (.inl rfl) rfl) p_int (atI_nat (j := 0) rfl)) (by rw [l6, sizeLine_eq]; omega)) pl_nil)) fun l => ?_
  refine w_set (i := 5) sc_law.nd rfl (.inl rfl) (p_lst (pl_cons (p_ixL (d := .str w') (p_var (i := 1) rfl (.inl rfl) rfl) p_int ?_) (pl_cons (p_catS (p_catS (p_ixL (d := .str h) (p_var (i := 1) rfl (.inl rfl) rfl) p_int ?_) p_str ?_) (p_ixL (d := .str n) (p_var (i := 1) rfl (.inl rfl) rfl) p_int ?_) ?_) pl_nil))) ?_
  · exact atI_nat (j := 1) rfl
  · exact atI_nat (j := 0) rfl
  · rw [l1, sizeLine_eq]; omega
  · exact atI_nat (j := 2) rfl
  · rw [len_app, l1, sizeLine_eq]; omega
  refine w_for PassesOwn.never rfl (i_rangeN (n := 2) z.range rfl p_int ?_ ?_) (fun i Γ Ω => ∃ x6 x7 : Option D, Γ = [some (.scr ns), some (.lst (strsD [h, w', n])), some (.lst ([a, b].map D.int)), some (.lst [sh q, sh p]), some (.raw (.ref l)), some (.lst [.str w', .str (h ++ " " ++ n)]), x6, x7, none, none, none, none] ∧ Ω = [(l, oLst K (strsD ((rws h w' n q p).take (i + 1))))]) ⟨_, _, rfl, rfl⟩ ?_ ?_
  · rfl
  · decide
  · rintro i d Γ Ω hd ⟨x6, x7, rfl, rfl⟩
    have hi : i < 2 := (List.getElem?_eq_some_iff.mp hd).1
    have hdi : d = .int (i : Int) := by
      rcases (by omega : i = 0 ∨ i = 1) with rfl | rfl <;> (cases hd; rfl)
    subst hdi
    obtain ⟨qi, bi, ri, h1, h2, q0, qn, qd, lb, h3, h4, h5⟩ : ∃ (qi : Rat) (bi ri : Str), atI [sh q, sh p] (i : Int) = some (sh qi) ∧ atI [D.str w', D.str (h ++ " " ++ n)] (i : Int) = some (.str bi) ∧ 0 < qi ∧ qi.num < 100 ∧ qi.den < 100 ∧ bi.length ≤ 20 ∧ h ++ " " ++ (shS qi ++ ": ") ++ bi = ri ∧ (rws h w' n q p).take (i + 1 + 1) = (rws h w' n q p).take (i + 1) ++ [ri] ∧ (rws h w' n q p).length = 3 := by
      rcases (by omega : i = 0 ∨ i = 1) with rfl | rfl
      · refine ⟨q, w', rowS (h, [w'], q), atI_nat (j := 0) rfl, atI_nat (j := 0) rfl, S.q0, S.qn, S.qd, by omega, ?_, rfl, rfl⟩
        unfold rowS shS
        dsimp only
        rw [show Txt.join " " [w'] = w' by rw [tjoin]; rfl]
        simp only [Str.append_assoc]
      · refine ⟨p, h ++ " " ++ n, rowS (h, [h, n], p), atI_nat (j := 1) rfl, atI_nat (j := 1) rfl, S.p0, S.pn, S.pd, by rw [len_app, len_app, l1]; omega, ?_, rfl, rfl⟩
        unfold rowS shS
        dsimp only
        rw [show Txt.join " " [h, n] = h ++ " " ++ n by rw [tjoin, join_two]; rfl]
        simp only [Str.append_assoc]
    have e1 : Str.ofString (toString qi.num) = numS qi.num.toNat := by unfold numS; rw [show ((qi.num.toNat : Nat) : Int) = qi.num by have := My.q_num_pos q0; omega]
    have e2 : Str.ofString (toString (qi.den : Int)) = numS qi.den := rfl
    have d1 := dig2 (m := qi.num.toNat) (by omega)
    have d2 := dig2 qd
    have lt := sh_len5 q0 qn qd
    refine ⟨_, (g_name (i := 6) sc_law.nd rfl (.inl rfl)), ?_⟩
    refine w_set (i := 7) sc_law.nd rfl (.inl rfl) (p_eq (d := .str (shS qi ++ ": ")) (p_catS (p_catS (p_catS (p_strI z.str rfl (p_ixT (p_ixL (d := sh qi) (p_var (i := 3) rfl (.inl rfl) rfl) (p_var (i := 6) rfl (.inl rfl) rfl) ?_) p_int rfl) ?_) p_str ?_) (p_strI z.str rfl (p_ixT (p_ixL (d := sh qi) (p_var (i := 3) rfl (.inl rfl) rfl) (p_var (i := 6) rfl (.inl rfl) rfl) ?_) p_int rfl) ?_) ?_) p_str ?_) ?_) ?_
    · exact h1
    · exact log_small (Int.lt_trans qn (by decide)) (Int.le_of_lt (My.q_num_pos q0))
    · simp only [len_app, e1, e2, l3, sizeLine_eq]; omega
    · exact h1
    · exact log_small' (Nat.lt_trans qd (by decide +kernel))
    · simp only [len_app, e1, e2, l3, sizeLine_eq]; omega
    · simp only [len_app, e1, e2, l3, l2, sizeLine_eq]; omega
    · rw [e1]; rfl
    clear e1 e2 d1 d2
    refine w_append (i := 4) (d := .str ri) rfl (.inl rfl) rfl (p_eq (p_catS (p_catS (p_catS (p_ixL (d := .str h) (p_var (i := 1) rfl (.inl rfl) rfl) p_int ?_) p_str ?_) (p_var (i := 7) rfl (.inl rfl) rfl) ?_) (p_ixL (d := .str bi) (p_var (i := 5) rfl (.inl rfl) rfl) (p_var (i := 6) rfl (.inl rfl) rfl) ?_) ?_) ?_) (by rw [strsD_len, List.length_take, h5, sizeLine_eq]; omega) ?_
    · exact atI_nat (j := 0) rfl
    · rw [l1, sizeLine_eq]; omega
    · simp only [len_app, l1, l2, sizeLine_eq]; omega
    · exact h2
    · simp only [len_app, l1, l2, sizeLine_eq]; omega
    · rw [h3]
    refine w_nil ⟨_, _, rfl, ?_⟩
    rw [h4]
    unfold strsD
    rw [List.map_append]
    rfl
  rintro Γ Ω ⟨x6, x7, rfl, rfl⟩
  have hrw := rws_txt S
  have hr3 : (rws h w' n q p).length = 3 := rfl
  rw [show (rws h w' n q p).take ((nums 0 2).length + 1) = rws h w' n q p from rfl]
  refine w_ifV (vt_lend (Γ' := [some (.scr ns), some (.lst (strsD [h, w', n])), some (.lst ([a, b].map D.int)), some (.lst [sh q, sh p]), some (.lst (strsD (rws h w' n q p))), some (.lst [.str w', .str (h ++ " " ++ n)]), x6, x7, none, none, none, none]) (t_cmp (c_neS (p_call (d := .str "read") o_law_kind (hr.mono (by decide)) rfl (pl_cons (p_join (ts := (rws h w' n q p)) p_str (p_var (i := 4) rfl (.inl rfl) rfl) (.inl ?_) ?_) pl_nil) ?_) p_str)) (lent_set (i := 4) lent_refl rfl (List.mem_cons_self ..) lends_lst) ⟨fun hk => ?_, fun _ => ?_⟩)
  · rfl
  · exact rws_join hrw (by rw [hr3]; decide)
  · exact ⟨_, rfl, .inl ⟨rfl, h, [(h, [w'], q), (h, [h, n], p)], rfl, S.sh, S.gv, S.ok⟩⟩
  · exact absurd hk (by decide +kernel)
  refine w_nil ?_
  obtain ⟨e, he⟩ : ∃ e, (oddL h w' n (shS q))[(ns.getD 3 0 % 37).toNat]? = some e := ⟨_, List.getElem?_eq_getElem (by
    have := emod_in (a := ns.getD 3 0) (show (0 : Int) < 37 by decide)
    have l37 : (oddL h w' n (shS q)).length = 37 := by
      have := odl16 (h := h) (w := w') (n := n) (t := shS q)
      rwa [List.length_map] at this
    rw [l37]; omega)⟩
  obtain ⟨oo, lx⟩ := odd_all S e (List.mem_of_getElem? he)
  refine w_asg (p_call (d := oddD e) o_law_odd (hr.mono (by decide)) rfl (pl_cons (p_var (i := 1) rfl (.inl rfl) rfl) (pl_cons (p_ixL (d := sh q) (p_var (i := 3) rfl (.inl rfl) rfl) p_int ?_) (pl_cons (p_call (d := .int (ns.getD 3 0)) o_law_cell_at (hr.mono (by decide)) rfl (pl_cons (p_var (i := 0) rfl (.inl rfl) rfl) (pl_cons p_int pl_nil)) ?_) pl_nil))) ?_) (g_tup rfl (gl_cons (g_name (i := 8) sc_law.nd rfl (.inl rfl)) (gl_cons (g_name (i := 9) sc_law.nd rfl (.inl rfl)) (gl_cons (g_name (i := 10) sc_law.nd rfl (.inl rfl)) gl_nil)))) ?_
  · exact atI_nat (j := 0) rfl
  · exact ⟨ns, 3, rfl, rfl⟩
  · exact ⟨h, w', n, q, ns.getD 3 0, e, rfl, rfl, he, S.sh, S.sw, S.sn, S.q0, S.qn, S.qd⟩
  clear he hlen ha hb es
  obtain ⟨at', x, y⟩ := e
  refine w_ga (Γ' := [some (.scr ns), some (.lst (strsD [h, w', n])), some (.lst ([a, b].map D.int)), some (.lst [sh q, sh p]), some (.raw (.ref l)), some (.lst [.str w', .str (h ++ " " ++ n)]), x6, x7, some (.int at'), some (.str x), some (.int y), none]) rfl ?_
  dsimp only at oo lx
  unfold OddOk at oo
  dsimp only at oo
  refine w_if (t_cmp (c_eqI (p_var (i := 10) rfl (.inl rfl) rfl) p_int)) ?_ ?_
  · intro hk
    have hy : y = 3 := of_decide_eq_true hk
    refine w_freeze (i := 4) rfl ?_
    refine w_ga (Γ' := [some (.scr ns), some (.lst (strsD [h, w', n])), some (.lst ([a, b].map D.int)), some (.lst [sh q, sh p]), some (.lst (strsD (rws h w' n q p))), some (.lst [.str w', .str (h ++ " " ++ n)]), x6, x7, some (.int at'), some (.str x), some (.int y), none]) rfl ?_
    refine w_ret (p_cmp (c_eqS (p_call (d := .str "no grammar") o_law_kind (hr.mono (by decide)) rfl (pl_cons (p_ixL (d := .str ("start " ++ h)) (p_var (i := 4) rfl (.inl rfl) rfl) p_int ?_) pl_nil) ?_) p_str)) ?_
    · exact atI_nat (j := 0) rfl
    · exact ⟨_, rfl, .inr (.inr ⟨rfl, one_gr S⟩)⟩
    · exact congrArg D.bl (decide_eq_true rfl)
  intro n3
  have n3 := of_decide_eq_false n3
  refine w_nil ?_
  refine w_if (t_cmp (c_gt (p_var (i := 10) rfl (.inl rfl) rfl) p_int)) ?_ ?_
  · intro hk
    have hy : 3 < y := of_decide_eq_true hk
    have hT := rws_len hrw (by rw [hr3]; decide)
    refine w_freeze (i := 4) rfl ?_
    refine w_ga (Γ' := [some (.scr ns), some (.lst (strsD [h, w', n])), some (.lst ([a, b].map D.int)), some (.lst [sh q, sh p]), some (.lst (strsD (rws h w' n q p))), some (.lst [.str w', .str (h ++ " " ++ n)]), x6, x7, some (.int at'), some (.str x), some (.int y), none]) rfl ?_
    obtain ⟨t, ht, nt⟩ : ∃ t, atI [D.str (Txt.join "\n" (rws h w' n q p) ++ "\n"), D.str "", D.str (Txt.join "\n" (rws h w' n q p) ++ " ")] (y - 4) = some (.str t) ∧ NoTx t := by
      rcases oo with ⟨z, _⟩ | ⟨z, _⟩ | ⟨z, _⟩ | z | z | z | z
      · exfalso; omega
      · exfalso; omega
      · exfalso; omega
      · exfalso; omega
      · rw [z]; exact ⟨_, atI_nat (j := 0) rfl, tail_tx S⟩
      · rw [z]; exact ⟨_, atI_nat (j := 1) rfl, none_tx⟩
      · rw [z]; exact ⟨_, atI_nat (j := 2) rfl, blank_tx S⟩
    refine w_set (i := 11) sc_law.nd rfl (.inl rfl) (p_ixL (d := .str t) (p_lst (pl_cons (p_catS (p_join (ts := (rws h w' n q p)) p_str (p_var (i := 4) rfl (.inl rfl) rfl) (.inl ?_) ?_) p_str ?_) (pl_cons p_str (pl_cons (p_catS (p_join (ts := (rws h w' n q p)) p_str (p_var (i := 4) rfl (.inl rfl) rfl) (.inl ?_) ?_) p_str ?_) pl_nil)))) (p_sub (p_var (i := 10) rfl (.inl rfl) rfl) p_int) ?_) ?_
    · rfl
    · exact rws_join hrw (by rw [hr3]; decide)
    · rw [l0, sizeLine_eq]; omega
    · rfl
    · exact rws_join hrw (by rw [hr3]; decide)
    · rw [l1, sizeLine_eq]; omega
    · exact ht
    refine w_ret (p_cmp (c_eqS (p_call (d := .str "no text") o_law_kind (hr.mono (by decide)) rfl (pl_cons (p_var (i := 11) rfl (.inl rfl) rfl) pl_nil) ?_) p_str)) ?_
    · exact ⟨_, rfl, .inr (.inl ⟨rfl, nt⟩)⟩
    · exact congrArg D.bl (decide_eq_true rfl)
  intro n4
  have n4 := of_decide_eq_false n4
  refine w_nil ?_
  refine w_ifV2 (fun Γ Ω => ∃ (k : Nat) (x : Str), k ≤ 2 ∧ x.length ≤ 100 ∧ ((y = 0 ∧ NoTx (Txt.join "\n" ((rws h w' n q p).set k x))) ∨ (0 < y ∧ NoGr (Txt.join "\n" ((rws h w' n q p).set k x)))) ∧ Γ = [some (.scr ns), some (.lst (strsD [h, w', n])), some (.lst ([a, b].map D.int)), some (.lst [sh q, sh p]), some (.raw (.ref l)), some (.lst [.str w', .str (h ++ " " ++ n)]), x6, x7, some (.int (k : Int)), some (.str x), some (.int y), none] ∧ Ω = [(l, oLst K (strsD (rws h w' n q p)))]) (vt_pure (t_cmp (c_eqI (p_var (i := 10) rfl (.inl rfl) rfl) p_int)) ⟨fun hk => ?_, fun hk => ?_⟩) ?_
  · have hy : y = 2 := of_decide_eq_true hk
    have h2 : at' = 2 := by
      rcases oo with ⟨z, _⟩ | ⟨z, _⟩ | ⟨z, z2⟩ | z | z | z | z
      · exfalso; omega
      · exfalso; omega
      · exact z2
      · exfalso; omega
      · exfalso; omega
      · exfalso; omega
      · exfalso; omega
    subst h2
    refine w_setV (i := 9) sc_law.nd rfl (.inl rfl) (v_ixO (v_pure (p_var (i := 4) rfl (.inl rfl) rfl) ⟨l, rfl, v_pure p_int ⟨1, strsD (rws h w' n q p), .str (rowS (h, [w'], q)), rfl, List.mem_singleton.mpr rfl, atI_nat (j := 1) rfl, ?_⟩⟩))
    exact w_nil ⟨2, rowS (h, [w'], q), by decide, S.r1.2.2.1, .inr ⟨by omega, same_gr S⟩, rfl, rfl⟩
  · have hy : y ≠ 2 := of_decide_eq_false hk
    rcases oo with ⟨z, k, z1, z2, z3⟩ | ⟨z, k, z1, z2, z3⟩ | ⟨z, _⟩ | z | z | z | z
    · subst z1
      exact w_nil ⟨k, x, z2, lx, .inl ⟨z, z3⟩, rfl, rfl⟩
    · subst z1
      exact w_nil ⟨k, x, z2, lx, .inr ⟨by omega, z3⟩, rfl, rfl⟩
    · exact absurd z hy
    · exfalso; omega
    · exfalso; omega
    · exfalso; omega
    · exfalso; omega
  rintro Γ Ω ⟨k, x, hk2, lx, oo, rfl, rfl⟩
  refine w_setitem (v_pure (p_var (i := 9) rfl (.inl rfl) rfl) (v_pure (p_var (i := 4) rfl (.inl rfl) rfl) ⟨l, rfl, v_pure (p_var (i := 8) rfl (.inl rfl) rfl) ⟨(k : Int), k, strsD (rws h w' n q p), [], rfl, List.Perm.refl _, ?_, ?_⟩⟩))
  · have : (strsD (rws h w' n q p)).length = 3 := rfl
    rw [this]
    exact ixN_nat (by omega)
  refine w_freeze (i := 4) rfl ?_
  have eset : (strsD (rws h w' n q p)).set k (D.str x) = strsD ((rws h w' n q p).set k x) := by unfold strsD; rw [List.map_set]
  rw [eset]
  refine w_ga (Γ' := [some (.scr ns), some (.lst (strsD [h, w', n])), some (.lst ([a, b].map D.int)), some (.lst [sh q, sh p]), some (.lst (strsD ((rws h w' n q p).set k x))), some (.lst [.str w', .str (h ++ " " ++ n)]), x6, x7, some (.int (k : Int)), some (.str x), some (.int y), none]) rfl ?_
  have hset : ∀ r ∈ (rws h w' n q p).set k x, r.length ≤ 100 := fun r hr' => by
    rcases List.mem_or_eq_of_mem_set hr' with z | z
    · exact hrw r z
    · rw [z]; exact lx
  have jo := rws_join hset (by rw [List.length_set, hr3]; decide)
  rcases oo with ⟨rfl, nt⟩ | ⟨hy, ng⟩
  · refine w_ret (p_cmp (c_eqS (p_call (d := .str "no text") o_law_kind (hr.mono (by decide)) rfl (pl_cons (p_join (ts := ((rws h w' n q p).set k x)) p_str (p_var (i := 4) rfl (.inl rfl) rfl) (.inl ?_) ?_) pl_nil) ?_) (p_ixL (d := .str "no text") (p_lst (pl_cons p_str (pl_cons p_str pl_nil))) (p_intB z.int rfl (p_cmp (c_gt (p_var (i := 10) rfl (.inl rfl) rfl) p_int))) ?_))) ?_
    · rfl
    · exact jo
    · exact ⟨_, rfl, .inr (.inl ⟨rfl, nt⟩)⟩
    · exact atI_nat (j := 0) rfl
    · exact congrArg D.bl (decide_eq_true rfl)
  · refine w_ret (p_cmp (c_eqS (p_call (d := .str "no grammar") o_law_kind (hr.mono (by decide)) rfl (pl_cons (p_join (ts := ((rws h w' n q p).set k x)) p_str (p_var (i := 4) rfl (.inl rfl) rfl) (.inl ?_) ?_) pl_nil) ?_) (p_ixL (d := .str "no grammar") (p_lst (pl_cons p_str (pl_cons p_str pl_nil))) (p_intB z.int rfl (p_cmp (c_gt (p_var (i := 10) rfl (.inl rfl) rfl) p_int))) ?_))) ?_
    · rfl
    · exact jo
    · exact ⟨_, rfl, .inr (.inr ⟨rfl, ng⟩)⟩
    · rw [decide_eq_true hy]; exact atI_nat (j := 1) rfl
    · exact congrArg D.bl (decide_eq_true rfl)
theorem law_all (ht : P.given.tree = none) (z : Zs mg) (g_NOUGHT : GlobD K mg "NOUGHT" (sh 0)) (g_ONE : GlobD K mg "ONE" (sh 1)) (g_MOST_RULES : GlobD K mg "MOST_RULES" (.int 30)) (g_MOST_SYMBOLS : GlobD K mg "MOST_SYMBOLS" (.int 4)) (g_MOST_LETTERS : GlobD K mg "MOST_LETTERS" (.int 8)) (g_MOST_FIGURES : GlobD K mg "MOST_FIGURES" (.int 60)) (g_FIRST_WORD : GlobD K mg "FIRST_WORD" (.str "start")) {S A1 A2 A3 A4 A5 : Addr} (er3 : Errs K mg S A1 A2 A3 A4 A5 A3 false false true false false) (er5 : Errs K mg S A1 A2 A3 A4 A5 A5 false false false false true) (c_Grammar : ClsG K C_Grammar) (d_Grammar : InitK K mg "Grammar" C_Grammar "Grammar.__init__" s_Grammar___init__ ["self", "start", "rules"]) (d_common_divisor : DefK K mg "common_divisor" s_common_divisor ["one", "other"]) (d_share : DefK K mg "share" s_share ["top", "bottom"]) (d_added : DefK K mg "added" s_added ["one", "other"]) (d_check_rules : DefK K mg "check_rules" s_check_rules ["rules"]) (d_check_rule : DefK K mg "check_rule" s_check_rule ["rule"]) (d_check_symbol : DefK K mg "check_symbol" s_check_symbol ["text"]) (d_is_symbol : DefK K mg "is_symbol" s_is_symbol ["text"]) (d_is_letter : DefK K mg "is_letter" s_is_letter ["sign"]) (d_check_start : DefK K mg "check_start" s_check_start ["start", "heads"]) (d_check_sums : DefK K mg "check_sums" s_check_sums ["heads", "rules"]) (d_heads_of : DefK K mg "heads_of" s_heads_of ["rules"]) (d_live_of : DefK K mg "live_of" s_live_of ["heads", "rules"]) (d_has_live_body : DefK K mg "has_live_body" s_has_live_body ["head", "rules", "heads", "live"]) (d_is_live_body : DefK K mg "is_live_body" s_is_live_body ["body", "heads", "live"]) (d_is_number : DefK K mg "is_number" s_is_number ["text"]) (d_read_share : DefK K mg "read_share" s_read_share ["text"]) (d_read_rule : DefK K mg "read_rule" s_read_rule ["row"]) (d_read_start : DefK K mg "read_start" s_read_start ["row"]) (d_read : DefK K mg "read" s_read ["text"]) (d_law_cell_at : DefK K mg "_law_cell_at" s_law_cell_at ["_law_script", "_law_k"]) (d_law_symbols : DefK K mg "_law_symbols" s_law_symbols ["_law_cell", "_law_many"]) (d_law_share : DefK K mg "_law_share" s_law_share ["_law_top", "_law_bottom"]) (d_law_kind : DefK K mg "_law_kind" s_law_kind ["_law_text"]) (d_law_odd : DefK K mg "_law_odd" s_law_odd ["_law_names", "_law_own", "_law_cell"]) {f : Addr} {fd : FuncData} (F : Fun K "law" "law" s_law f fd) : FnOk P w K mg base CX0 41 f fd ["_law_script"] (spLaw3 K) := by
  have q1 := ok_common_divisor (P := P) (w := w) (base := base) d_common_divisor
  have q1s := ok_share ht d_share q1
  have q2 := ok_added ht d_added q1
  have q3 := ok_is_letter (P := P) (w := w) (base := base) d_is_letter
  have q3b := ok_is_symbol z g_MOST_LETTERS d_is_symbol q3
  have q4 := ok_check_symbol z g_MOST_LETTERS d_check_symbol q3b
  have x4 := ok_check_symbolX z er3.c er3.m3 g_MOST_LETTERS d_check_symbol q3b
  have q5 := ok_check_rule z g_NOUGHT g_MOST_SYMBOLS d_check_rule q4
  have x5 := ok_check_ruleX z er3.c er3.m3 g_NOUGHT g_MOST_SYMBOLS d_check_rule q4 x4
  have q6 := ok_check_rules z g_MOST_RULES d_check_rules q5
  have x6 := ok_check_rulesX z er3.c er3.m3 g_MOST_RULES d_check_rules q5 x5
  have q7 := ok_check_start (P := P) (w := w) (base := base) d_check_start
  have x7 := ok_check_startX (P := P) (w := w) (base := base) er3.c er3.m3 d_check_start
  have q8 := ok_check_sums g_NOUGHT g_ONE d_check_sums q2
  have x8 := ok_check_sumsX er3.c er3.m3 g_NOUGHT g_ONE d_check_sums q2
  have q9 := ok_heads_of (P := P) (w := w) (base := base) d_heads_of
  have q10 := ok_is_live_body (P := P) (w := w) (base := base) z d_is_live_body
  have q11 := ok_has_live_body z d_has_live_body q10
  have q12 := ok_live_of z d_live_of q11
  have q13 := ok_Grammar z c_Grammar d_Grammar q6 q9 q7 q8 q12
  have q15 := ok_GrammarX z c_Grammar d_Grammar q6 x6 q9 q7 x7 x8
  have t1 := ok_is_number (P := P) (w := w) (base := base) z g_MOST_FIGURES d_is_number
  have t1b := ok_is_numberB (P := P) (w := w) (base := base) z g_MOST_FIGURES d_is_number
  have t2 := ok_read_share z d_read_share t1 q1s
  have x2 := ok_read_shareX z er5.c er5.m5 d_read_share t1b q1s
  have t3 := ok_read_rule z g_MOST_SYMBOLS d_read_rule q3b t2
  have x3 := ok_read_ruleX z er5.c er5.m5 g_MOST_SYMBOLS d_read_rule q3b x2
  have t4 := ok_read_start z g_FIRST_WORD d_read_start q3b
  have xs := ok_read_startX z er5.c er5.m5 g_FIRST_WORD d_read_start q3b
  have t5 := ok_read z d_read t4 t3 q13
  have x9 := ok_readX z q15 d_read t4 xs t3 x3 q13
  have r1 := ok_law_cell_at (P := P) (w := w) (base := base) z d_law_cell_at
  have r3 := ok_law_share (w := w) (base := base) ht d_law_share
  have r9 := ok_law_symbols (w := w) (base := base) ht z d_law_symbols
  have u1 := ok_law_kind z er3 er5 d_law_kind t5 x9
  have u2 := ok_law_odd (P := P) (w := w) (base := base) z d_law_odd
  exact ok_law z F r1 r9 r3 u1 u2
end
end Law
set_option Elab.async false
set_option linter.all false
set_option maxRecDepth 100000
set_option maxHeartbeats 4000000
namespace Law
open PySem L2 L3
end Law
namespace Law
open PySem L2 L3
theorem walk {l : PySem.W.OpenLaw} {q : Program} {loose : List Str} {XP : (Str → Option Value) → Heap → Prop} {YP : World → Heap → Prop} {d : DefRec} {K : Params → PySem.W.Frag} (hn : l.most = some 63) (hi : PyProof.Rows.importsNone q = true) (hdf : d.params.defaults = [])
    (hY : ∀ (w : World) (h : Heap), YP w h → (K w.params).In h)
    (F : ∀ (w : World) (mg : Str → Option Value) (fa : Addr) (h : Heap), (K w.params).In h → h.Ns mainGlobals mg → mg d.name = some (.ref fa) →
      ∃ fd : FuncData, (∀ (s : Shared) (u : Value), BindsTo s fd ⟨[u], []⟩ [("_law_script", u)]) ∧ ∀ base : Heap, (K w.params).In base → base.Ns mainGlobals mg → FnOk l.prog w (K w.params) mg base CX0 41 fa fd ["_law_script"] (spLaw3 (K w.params))) :
    PySem.W.WalkO q loose XP YP l.row.toRowW d [] (fun f vs => PySem.call f vs) :=
  L2.walk_of (n := 63) (k := 41) (x := "_law_script") (CX := fun _ => CX0) (sp := fun w => spLaw3 (K w.params)) hn (by decide) hi hdf ⟨rfl, by decide, by decide⟩ hY F (fun _ _ a ns hl _ hS => sp_law3 hl hS) fun _ _ _ _ _ z => z
end Law
open PySem PySem.W PyProof.Rows
set_option maxRecDepth 100000 in
set_option maxHeartbeats 0 in
theorem PySem.Challenge.cw_scoreflow_k23_texts_refused_holds : PySem.Challenge.rw_scoreflow_k23_texts_refused.Holds := by
  w_on; o_law
  refine PySem.W.holds_open (q := Law.view) (loose := []) (Xt := fun s => PySem.W.xlAt Law.view [] s && PySem.W.recOk [] s) (XP := PySem.W.XL Law.view [])
    (Yf := (PySem.W.kHook Law.KP Law.KA Law.KE).obs) (Ya := (PySem.W.kHook Law.KP Law.KA Law.KE).val) (YP := (PySem.W.kHook Law.KP Law.KA Law.KE).says) (N := 5162) Law.hl (PySem.W.kHook Law.KP Law.KA Law.KE).of (PySem.W.kHook Law.KP Law.KA Law.KE).keeps
    (fun s e => PySem.W.xl_of s (Bool.and_eq_true_iff.mp e).1) PySem.W.XL.keeps (by rfl) (by rfl) (by rfl) (fun s e => PySem.W.recFacts_of (Bool.and_eq_true_iff.mp e).2) ?d4 ?d5 ?d6 ⟨rfl, rfl, rfl, rfl, rfl, by decide +kernel⟩ ?hw ?hc
  case d4 => rfl
  case d5 => first | assumption | decide +kernel
  case d6 => decide +kernel
  case hw => w_witness2
  k_fill
  refine Law.walk (l := PySem.Challenge.rw_scoreflow_k23_texts_refused) rfl ?hi rfl (fun w h Y => PySem.W.kIn_of Y) ?F
  case hi => decide +kernel
  case F =>
    intro w mg fa h KX G hmg
    have d_common_divisor : L2.DefK (L2.KOf KX) mg "common_divisor" Law.s_common_divisor ["one", "other"] := by
      dsimp only [L2.KOf]
      refine' L2.def_mk KX G ["one", "other"] ?a ?l ?c ?k ?b
      (case a => k_is); (case l => k_is); (case c => k_is); (case k => k_is)
      (case b => intro _ _ _ _ _ _ us hl; obtain ⟨_, _, rfl⟩ := L3.len2 hl; rfl)
    have d_share : L2.DefK (L2.KOf KX) mg "share" Law.s_share ["top", "bottom"] := by
      dsimp only [L2.KOf]
      refine' L2.def_mk KX G ["top", "bottom"] ?a ?l ?c ?k ?b
      (case a => k_is); (case l => k_is); (case c => k_is); (case k => k_is)
      (case b => intro _ _ _ _ _ _ us hl; obtain ⟨_, _, rfl⟩ := L3.len2 hl; rfl)
    have d_added : L2.DefK (L2.KOf KX) mg "added" Law.s_added ["one", "other"] := by
      dsimp only [L2.KOf]
      refine' L2.def_mk KX G ["one", "other"] ?a ?l ?c ?k ?b
      (case a => k_is); (case l => k_is); (case c => k_is); (case k => k_is)
      (case b => intro _ _ _ _ _ _ us hl; obtain ⟨_, _, rfl⟩ := L3.len2 hl; rfl)
    have d_check_rules : L2.DefK (L2.KOf KX) mg "check_rules" Law.s_check_rules ["rules"] := by
      dsimp only [L2.KOf]
      refine' L2.def_mk KX G ["rules"] ?a ?l ?c ?k ?b
      (case a => k_is); (case l => k_is); (case c => k_is); (case k => k_is)
      (case b => intro _ _ _ _ _ _ us hl; obtain ⟨_, rfl⟩ := L3.len1 hl; rfl)
    have d_check_rule : L2.DefK (L2.KOf KX) mg "check_rule" Law.s_check_rule ["rule"] := by
      dsimp only [L2.KOf]
      refine' L2.def_mk KX G ["rule"] ?a ?l ?c ?k ?b
      (case a => k_is); (case l => k_is); (case c => k_is); (case k => k_is)
      (case b => intro _ _ _ _ _ _ us hl; obtain ⟨_, rfl⟩ := L3.len1 hl; rfl)
    have d_check_symbol : L2.DefK (L2.KOf KX) mg "check_symbol" Law.s_check_symbol ["text"] := by
      dsimp only [L2.KOf]
      refine' L2.def_mk KX G ["text"] ?a ?l ?c ?k ?b
      (case a => k_is); (case l => k_is); (case c => k_is); (case k => k_is)
      (case b => intro _ _ _ _ _ _ us hl; obtain ⟨_, rfl⟩ := L3.len1 hl; rfl)
    have d_is_symbol : L2.DefK (L2.KOf KX) mg "is_symbol" Law.s_is_symbol ["text"] := by
      dsimp only [L2.KOf]
      refine' L2.def_mk KX G ["text"] ?a ?l ?c ?k ?b
      (case a => k_is); (case l => k_is); (case c => k_is); (case k => k_is)
      (case b => intro _ _ _ _ _ _ us hl; obtain ⟨_, rfl⟩ := L3.len1 hl; rfl)
    have d_is_letter : L2.DefK (L2.KOf KX) mg "is_letter" Law.s_is_letter ["sign"] := by
      dsimp only [L2.KOf]
      refine' L2.def_mk KX G ["sign"] ?a ?l ?c ?k ?b
      (case a => k_is); (case l => k_is); (case c => k_is); (case k => k_is)
      (case b => intro _ _ _ _ _ _ us hl; obtain ⟨_, rfl⟩ := L3.len1 hl; rfl)
    have d_check_start : L2.DefK (L2.KOf KX) mg "check_start" Law.s_check_start ["start", "heads"] := by
      dsimp only [L2.KOf]
      refine' L2.def_mk KX G ["start", "heads"] ?a ?l ?c ?k ?b
      (case a => k_is); (case l => k_is); (case c => k_is); (case k => k_is)
      (case b => intro _ _ _ _ _ _ us hl; obtain ⟨_, _, rfl⟩ := L3.len2 hl; rfl)
    have d_check_sums : L2.DefK (L2.KOf KX) mg "check_sums" Law.s_check_sums ["heads", "rules"] := by
      dsimp only [L2.KOf]
      refine' L2.def_mk KX G ["heads", "rules"] ?a ?l ?c ?k ?b
      (case a => k_is); (case l => k_is); (case c => k_is); (case k => k_is)
      (case b => intro _ _ _ _ _ _ us hl; obtain ⟨_, _, rfl⟩ := L3.len2 hl; rfl)
    have d_heads_of : L2.DefK (L2.KOf KX) mg "heads_of" Law.s_heads_of ["rules"] := by
      dsimp only [L2.KOf]
      refine' L2.def_mk KX G ["rules"] ?a ?l ?c ?k ?b
      (case a => k_is); (case l => k_is); (case c => k_is); (case k => k_is)
      (case b => intro _ _ _ _ _ _ us hl; obtain ⟨_, rfl⟩ := L3.len1 hl; rfl)
    have d_live_of : L2.DefK (L2.KOf KX) mg "live_of" Law.s_live_of ["heads", "rules"] := by
      dsimp only [L2.KOf]
      refine' L2.def_mk KX G ["heads", "rules"] ?a ?l ?c ?k ?b
      (case a => k_is); (case l => k_is); (case c => k_is); (case k => k_is)
      (case b => intro _ _ _ _ _ _ us hl; obtain ⟨_, _, rfl⟩ := L3.len2 hl; rfl)
    have d_has_live_body : L2.DefK (L2.KOf KX) mg "has_live_body" Law.s_has_live_body ["head", "rules", "heads", "live"] := by
      dsimp only [L2.KOf]
      refine' L2.def_mk KX G ["head", "rules", "heads", "live"] ?a ?l ?c ?k ?b
      (case a => k_is); (case l => k_is); (case c => k_is); (case k => k_is)
      (case b => intro _ _ _ _ _ _ us hl; obtain ⟨_, _, _, _, rfl⟩ := L3.len4 hl; rfl)
    have d_is_live_body : L2.DefK (L2.KOf KX) mg "is_live_body" Law.s_is_live_body ["body", "heads", "live"] := by
      dsimp only [L2.KOf]
      refine' L2.def_mk KX G ["body", "heads", "live"] ?a ?l ?c ?k ?b
      (case a => k_is); (case l => k_is); (case c => k_is); (case k => k_is)
      (case b => intro _ _ _ _ _ _ us hl; obtain ⟨_, _, _, rfl⟩ := L3.len3 hl; rfl)
    have d_is_number : L2.DefK (L2.KOf KX) mg "is_number" Law.s_is_number ["text"] := by
      dsimp only [L2.KOf]
      refine' L2.def_mk KX G ["text"] ?a ?l ?c ?k ?b
      (case a => k_is); (case l => k_is); (case c => k_is); (case k => k_is)
      (case b => intro _ _ _ _ _ _ us hl; obtain ⟨_, rfl⟩ := L3.len1 hl; rfl)
    have d_read_share : L2.DefK (L2.KOf KX) mg "read_share" Law.s_read_share ["text"] := by
      dsimp only [L2.KOf]
      refine' L2.def_mk KX G ["text"] ?a ?l ?c ?k ?b
      (case a => k_is); (case l => k_is); (case c => k_is); (case k => k_is)
      (case b => intro _ _ _ _ _ _ us hl; obtain ⟨_, rfl⟩ := L3.len1 hl; rfl)
    have d_read_rule : L2.DefK (L2.KOf KX) mg "read_rule" Law.s_read_rule ["row"] := by
      dsimp only [L2.KOf]
      refine' L2.def_mk KX G ["row"] ?a ?l ?c ?k ?b
      (case a => k_is); (case l => k_is); (case c => k_is); (case k => k_is)
      (case b => intro _ _ _ _ _ _ us hl; obtain ⟨_, rfl⟩ := L3.len1 hl; rfl)
    have d_read_start : L2.DefK (L2.KOf KX) mg "read_start" Law.s_read_start ["row"] := by
      dsimp only [L2.KOf]
      refine' L2.def_mk KX G ["row"] ?a ?l ?c ?k ?b
      (case a => k_is); (case l => k_is); (case c => k_is); (case k => k_is)
      (case b => intro _ _ _ _ _ _ us hl; obtain ⟨_, rfl⟩ := L3.len1 hl; rfl)
    have d_read : L2.DefK (L2.KOf KX) mg "read" Law.s_read ["text"] := by
      dsimp only [L2.KOf]
      refine' L2.def_mk KX G ["text"] ?a ?l ?c ?k ?b
      (case a => k_is); (case l => k_is); (case c => k_is); (case k => k_is)
      (case b => intro _ _ _ _ _ _ us hl; obtain ⟨_, rfl⟩ := L3.len1 hl; rfl)
    have d_law_cell_at : L2.DefK (L2.KOf KX) mg "_law_cell_at" Law.s_law_cell_at ["_law_script", "_law_k"] := by
      dsimp only [L2.KOf]
      refine' L2.def_mk KX G ["_law_script", "_law_k"] ?a ?l ?c ?k ?b
      (case a => k_is); (case l => k_is); (case c => k_is); (case k => k_is)
      (case b => intro _ _ _ _ _ _ us hl; obtain ⟨_, _, rfl⟩ := L3.len2 hl; rfl)
    have d_law_symbols : L2.DefK (L2.KOf KX) mg "_law_symbols" Law.s_law_symbols ["_law_cell", "_law_many"] := by
      dsimp only [L2.KOf]
      refine' L2.def_mk KX G ["_law_cell", "_law_many"] ?a ?l ?c ?k ?b
      (case a => k_is); (case l => k_is); (case c => k_is); (case k => k_is)
      (case b => intro _ _ _ _ _ _ us hl; obtain ⟨_, _, rfl⟩ := L3.len2 hl; rfl)
    have d_law_share : L2.DefK (L2.KOf KX) mg "_law_share" Law.s_law_share ["_law_top", "_law_bottom"] := by
      dsimp only [L2.KOf]
      refine' L2.def_mk KX G ["_law_top", "_law_bottom"] ?a ?l ?c ?k ?b
      (case a => k_is); (case l => k_is); (case c => k_is); (case k => k_is)
      (case b => intro _ _ _ _ _ _ us hl; obtain ⟨_, _, rfl⟩ := L3.len2 hl; rfl)
    have d_law_kind : L2.DefK (L2.KOf KX) mg "_law_kind" Law.s_law_kind ["_law_text"] := by
      dsimp only [L2.KOf]
      refine' L2.def_mk KX G ["_law_text"] ?a ?l ?c ?k ?b
      (case a => k_is); (case l => k_is); (case c => k_is); (case k => k_is)
      (case b => intro _ _ _ _ _ _ us hl; obtain ⟨_, rfl⟩ := L3.len1 hl; rfl)
    have d_law_odd : L2.DefK (L2.KOf KX) mg "_law_odd" Law.s_law_odd ["_law_names", "_law_own", "_law_cell"] := by
      dsimp only [L2.KOf]
      refine' L2.def_mk KX G ["_law_names", "_law_own", "_law_cell"] ?a ?l ?c ?k ?b
      (case a => k_is); (case l => k_is); (case c => k_is); (case k => k_is)
      (case b => intro _ _ _ _ _ _ us hl; obtain ⟨_, _, _, rfl⟩ := L3.len3 hl; rfl)
    have z_len : mg "len" = none := by
      refine' PySem.W.mg_none_of KX G ?a
      (case a => k_is)
    have z_range : mg "range" = none := by
      refine' PySem.W.mg_none_of KX G ?a
      (case a => k_is)
    have z_list : mg "list" = none := by
      refine' PySem.W.mg_none_of KX G ?a
      (case a => k_is)
    have z_tuple : mg "tuple" = none := by
      refine' PySem.W.mg_none_of KX G ?a
      (case a => k_is)
    have z_int : mg "int" = none := by
      refine' PySem.W.mg_none_of KX G ?a
      (case a => k_is)
    have z_bool : mg "bool" = none := by
      refine' PySem.W.mg_none_of KX G ?a
      (case a => k_is)
    have z_str : mg "str" = none := by
      refine' PySem.W.mg_none_of KX G ?a
      (case a => k_is)
    have z_dict : mg "dict" = none := by
      refine' PySem.W.mg_none_of KX G ?a
      (case a => k_is)
    have z_isinstance : mg "isinstance" = none := by
      refine' PySem.W.mg_none_of KX G ?a
      (case a => k_is)
    have z_sum : mg "sum" = none := by
      refine' PySem.W.mg_none_of KX G ?a
      (case a => k_is)
    have z_enumerate : mg "enumerate" = none := by
      refine' PySem.W.mg_none_of KX G ?a
      (case a => k_is)
    have z_zip : mg "zip" = none := by
      refine' PySem.W.mg_none_of KX G ?a
      (case a => k_is)
    have z_ValueError : mg "ValueError" = none := by
      refine' PySem.W.mg_none_of KX G ?a
      (case a => k_is)
    have z_all : mg "all" = none := by
      refine' PySem.W.mg_none_of KX G ?a
      (case a => k_is)
    have z_any : mg "any" = none := by
      refine' PySem.W.mg_none_of KX G ?a
      (case a => k_is)
    have z_reversed : mg "reversed" = none := by
      refine' PySem.W.mg_none_of KX G ?a
      (case a => k_is)
    have z : L3.Zs mg := ⟨z_len, z_range, z_list, z_tuple, z_int, z_bool, z_str, z_dict, z_isinstance, z_sum, z_enumerate, z_zip, z_ValueError, z_all, z_any, z_reversed⟩
    have g_NOUGHT : L3.GlobD (L2.KOf KX) mg "NOUGHT" (L3.sh 0) := by
      dsimp only [L2.KOf]
      refine' L3.globPair KX G ?a ?l
      (case a => k_is); (case l => k_is)
    have g_ONE : L3.GlobD (L2.KOf KX) mg "ONE" (L3.sh 1) := by
      dsimp only [L2.KOf]
      refine' L3.globPair KX G ?a ?l
      (case a => k_is); (case l => k_is)
    have g_MOST_RULES : L3.GlobD (L2.KOf KX) mg "MOST_RULES" (.int 30) := by
      dsimp only [L2.KOf]
      refine' L3.globInt KX G ?a
      (case a => k_is)
    have g_MOST_SYMBOLS : L3.GlobD (L2.KOf KX) mg "MOST_SYMBOLS" (.int 4) := by
      dsimp only [L2.KOf]
      refine' L3.globInt KX G ?a
      (case a => k_is)
    have g_MOST_LETTERS : L3.GlobD (L2.KOf KX) mg "MOST_LETTERS" (.int 8) := by
      dsimp only [L2.KOf]
      refine' L3.globInt KX G ?a
      (case a => k_is)
    have g_MOST_FIGURES : L3.GlobD (L2.KOf KX) mg "MOST_FIGURES" (.int 60) := by
      dsimp only [L2.KOf]
      refine' L3.globInt KX G ?a
      (case a => k_is)
    have g_FIRST_WORD : L3.GlobD (L2.KOf KX) mg "FIRST_WORD" (.str "start") := by
      dsimp only [L2.KOf]
      refine' L3.globStr KX G ?a
      (case a => k_is)
    have er : ∃ S A1 A2 A3 A4 A5, L3.Errs (L2.KOf KX) mg S A1 A2 A3 A4 A5 A3 false false true false false ∧ L3.Errs (L2.KOf KX) mg S A1 A2 A3 A4 A5 A5 false false false false true := by
      dsimp only [L2.KOf]
      refine' ⟨_, _, _, _, _, _, L3.errs_mk KX G ?aS_3 ?a1_3 ?a2_3 ?a3_3 ?a4_3 ?a5_3 ?c1_3 ?g1_3 ?g2_3 ?g3_3 ?g4_3 ?g5_3 ?g6_3 ?g7_3 ?lk_3 ?xS_3 ?xR_3 ?kS_3 ?kV_3 ?k1_3 ?k2_3 ?k3_3 ?k4_3 ?k5_3, L3.errs_mk KX G ?aS_5 ?a1_5 ?a2_5 ?a3_5 ?a4_5 ?a5_5 ?c1_5 ?g1_5 ?g2_5 ?g3_5 ?g4_5 ?g5_5 ?g6_5 ?g7_5 ?lk_5 ?xS_5 ?xR_5 ?kS_5 ?kV_5 ?k1_5 ?k2_5 ?k3_5 ?k4_5 ?k5_5⟩
      (case aS_3 => k_is)
      (case a1_3 => k_is)
      (case a2_3 => k_is)
      (case a3_3 => k_is)
      (case a4_3 => k_is)
      (case a5_3 => k_is)
      (case c1_3 => kernel_rfl)
      (case g1_3 => k_is)
      (case g2_3 => k_is)
      (case g3_3 => k_is)
      (case g4_3 => k_is)
      (case g5_3 => k_is)
      (case g6_3 => k_is)
      (case g7_3 => k_is)
      (case lk_3 => k_is)
      (case xS_3 => kernel_rfl)
      (case xR_3 => kernel_rfl)
      (case kS_3 => kernel_rfl)
      (case kV_3 => kernel_rfl)
      (case k1_3 => kernel_rfl)
      (case k2_3 => kernel_rfl)
      (case k3_3 => kernel_rfl)
      (case k4_3 => kernel_rfl)
      (case k5_3 => kernel_rfl)
      (case aS_5 => k_is)
      (case a1_5 => k_is)
      (case a2_5 => k_is)
      (case a3_5 => k_is)
      (case a4_5 => k_is)
      (case a5_5 => k_is)
      (case c1_5 => kernel_rfl)
      (case g1_5 => k_is)
      (case g2_5 => k_is)
      (case g3_5 => k_is)
      (case g4_5 => k_is)
      (case g5_5 => k_is)
      (case g6_5 => k_is)
      (case g7_5 => k_is)
      (case lk_5 => k_is)
      (case xS_5 => kernel_rfl)
      (case xR_5 => kernel_rfl)
      (case kS_5 => kernel_rfl)
      (case kV_5 => kernel_rfl)
      (case k1_5 => kernel_rfl)
      (case k2_5 => kernel_rfl)
      (case k3_5 => kernel_rfl)
      (case k4_5 => kernel_rfl)
      (case k5_5 => kernel_rfl)
    obtain ⟨S, A1, A2, A3, A4, A5, er3, er5⟩ := er
    have cc_Grammar : ∃ C, L3.ClsG (L2.KOf KX) C ∧ L2.InitK (L2.KOf KX) mg "Grammar" C "Grammar.__init__" Law.s_Grammar___init__ ["self", "start", "rules"] := by
      dsimp only [L2.KOf]
      refine' ⟨_, L3.clsG_mk ?pg ?hd ?po ?sa ?n0 ?n1 ?n2 ?n3, L2.init_mk KX G ["self", "start", "rules"] ?g ?a ?mk ?i ?kc ?l ?c ?k ?b⟩
      (case g => k_is); (case a => k_is); (case mk => k_is); (case i => k_is); (case kc => k_is); (case l => k_is); (case c => k_is); (case k => k_is)
      (case b => intro _ _ _ _ _ _ us hl; obtain ⟨_, _, _, rfl⟩ := L3.len3 hl; rfl)
      (case pg => k_is); (case hd => k_is); (case po => k_is); (case sa => k_is)
      (case n0 => k_is)
      (case n1 => k_is)
      (case n2 => k_is)
      (case n3 => k_is)
    obtain ⟨C_Grammar, c_Grammar, d_Grammar⟩ := cc_Grammar
    refine' L2.law_mk (st := Law.s_law) KX G hmg ?a ?l ?c ?k ?b ?ok
    (case a => k_is); (case l => k_is); (case c => k_is); (case k => k_is)
    (case b => exact fun _ => rfl)
    (case ok =>
      intro fd base kb nb F
      exact Law.law_all rfl z g_NOUGHT g_ONE g_MOST_RULES g_MOST_SYMBOLS g_MOST_LETTERS g_MOST_FIGURES g_FIRST_WORD er3 er5 c_Grammar d_Grammar d_common_divisor d_share d_added d_check_rules d_check_rule d_check_symbol d_is_symbol d_is_letter d_check_start d_check_sums d_heads_of d_live_of d_has_live_body d_is_live_body d_is_number d_read_share d_read_rule d_read_start d_read d_law_cell_at d_law_symbols d_law_share d_law_kind d_law_odd F)
