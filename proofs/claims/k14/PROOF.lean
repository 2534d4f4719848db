import PyProof.Rows.All
import Wide.All
import OpenK.AllK
import Wide.FinOn
import KE.KStateDown
import HandS.ForMost
import HandS.ForExc
import HandS.More
import HandS.Conv
import HandS.IsInst
import HandS.DictComp
import HandS.Zip
import HandS.Walk
import HandS.SetKeys
import HandS.Codes
import HandS.CallLocal
import HandS.WrittenGet
import HandS.TryMany
import HandS.ExcField
import HandS.Flow
import HandS.Style
import HandS.Evl
import HandS.Wide
import HandS.WideBits
import HandS.Defaults
import HandS.Head0
import HandS.Head1
import HandS.Head2
import HandS.HeadEnd
import HandS.HeadHook1
import HandS.HeadHook2
import HandS.HeadHook3
import HandS.HeadHook4
import HandS.ExcOwn
import HandS.TryOnly
import HandS.TryElse
import HandS.TupAny
import HandS.ExcInit
import HandS.ExcValue
import HandS.ExcIs
import HandS.DeepEq
import PySem.Challenge.RW_pastless_k14_expressions_as_texts
set_option Elab.async false
set_option linter.all false
set_option maxRecDepth 100000
set_option maxHeartbeats 2000000
namespace M
open PySem PySem.Spec PyProof.Rows L2
def top (i : Nat) : Stmt := PySem.Challenge.pw_pastless_k14_expressions_as_texts.main.body.getD i (.Pass ⟨0, 0, 0, 0⟩)
abbrev s_NoText_init : Stmt := inClass (top 4) 0
abbrev s_is_integer : Stmt := top 6
abbrev s_is_tuple : Stmt := top 7
abbrev s_is_expression : Stmt := top 12
abbrev s_expression_text : Stmt := top 14
abbrev s_text_of : Stmt := top 15
abbrev s_read_expression : Stmt := top 16
abbrev s_expression_in : Stmt := top 17
abbrev s_expression_at : Stmt := top 18
abbrev s_l_pool : Stmt := top 20
abbrev s_l_draw : Stmt := top 21
abbrev s_l_leaf : Stmt := top 22
abbrev s_l_tree : Stmt := top 23
abbrev s_l_odd : Stmt := top 24
abbrev s_l_nodes : Stmt := top 25
abbrev s_l_put : Stmt := top 26
abbrev s_l_good : Stmt := top 27
abbrev s_l_text : Stmt := top 28
abbrev s_l_sign : Stmt := top 29
abbrev s_l_change : Stmt := top 30
abbrev s_l_read : Stmt := top 31
abbrev s_l_same : Stmt := top 32
abbrev s_l_asked : Stmt := top 33
abbrev s_l_writes : Stmt := top 34
abbrev s_l_reads : Stmt := top 35
abbrev s_law : Stmt := top 36
abbrev dd (x : Str) (st : Stmt) : He.DefD := ⟨(x, none), x, x, defArgs st, defBody st, defScope st, [], []⟩
abbrev dm (C m q : Str) (st : Stmt) : He.DefD := ⟨(C, some m), m, q, defArgs st, defBody st, defScope st, [], []⟩
def fn : List He.DefD := [dm "NoText" "__init__" "NoText.__init__" s_NoText_init, dd "is_integer" s_is_integer, dd "is_tuple" s_is_tuple, dd "is_expression" s_is_expression, dd "expression_text" s_expression_text, dd "text_of" s_text_of, dd "read_expression" s_read_expression, dd "expression_in" s_expression_in, dd "expression_at" s_expression_at, dd "_law_pool" s_l_pool, dd "_law_draw" s_l_draw, dd "_law_leaf" s_l_leaf, dd "_law_tree" s_l_tree, dd "_law_odd" s_l_odd, dd "_law_nodes" s_l_nodes, dd "_law_put" s_l_put, dd "_law_good" s_l_good, dd "_law_text" s_l_text, dd "_law_sign" s_l_sign, dd "_law_change" s_l_change, dd "_law_read" s_l_read, dd "_law_same" s_l_same, dd "_law_asked" s_l_asked, dd "_law_writes" s_l_writes, dd "_law_reads" s_l_reads, dd "law" s_law]
def fa0 : List He.Fa := [.glo "is_integer", .glo "is_tuple", .glo "is_expression", .glo "expression_text", .glo "text_of", .glo "read_expression", .glo "expression_in", .glo "expression_at", .glo "_law_pool", .glo "_law_draw", .glo "_law_leaf", .glo "_law_tree", .glo "_law_odd", .glo "_law_nodes", .glo "_law_put", .glo "_law_good", .glo "_law_text", .glo "_law_sign", .glo "_law_change", .glo "_law_read", .glo "_law_same", .glo "_law_asked", .glo "_law_writes", .glo "_law_reads", .glo "law", .glo "PastError", .glo "NoExpression", .glo "NoLine", .glo "NoText", .exc "PastError"]
def fa1 : List He.Fa := [.exc "NoExpression", .exm "NoExpression" "NoExpression" true, .exm "NoExpression" "PastError" true, .free "len", .free "isinstance", .free "int", .free "abs", .free "tuple", .free "list", .free "str", .free "bool", .free "range", .free "zip", .free "enumerate", .free "set", .free "min", .free "max", .free "reversed", .free "sorted", .free "sum", .free "dict", .free "ValueError", .glo "HELD", .glo "SIGNS", .int "DEEPEST_EXPRESSION" (6)]
def fa : List He.Fa := fa0 ++ fa1
/-- the values of a written dict are tuples of texts -/
def formsB (K : PySem.W.Frag) (a : Addr) (kvs : List (Str × List Str)) : Bool := kvs.all fun q => match PySem.W.nsIn K a q.1 with
  | some (some (.ref t)) => (match K.lookup t with
    | some ⟨.type c, none, .seq its _, _⟩ => decide (c = "tuple") && (decide (its.size ≤ sizeLine) && He.relAll (q.2.map V.str) its.toList)
    | _ => false)
  | _ => false
/-- the class x is an error with its own __init__, which keeps the field f -/
def oexS (K : PySem.W.Frag) (C : Addr) : Bool := match K.lookup C with
  | some ⟨.type t, _, .cls cd, sl⟩ => (match cd.mro, sl.toList with
    | .ref D :: bm, [_, _, _, _, some (.builtin n), _] => decide (t = "type") && (decide (D = C) && (decide (n = "ValueError.__new__") && (cd.hasDict && (!cd.hasDel && PySem.HandSPX.refsVE bm))))
    | _, _ => false)
  | _ => false
def oexB (K : PySem.W.Frag) (x f : Str) : Bool := oexS K (He.ga K x) && (He.eqO (PySem.W.findIn K (.ref (He.ga K x)) "__setattr__") (some (some (.builtin "object.__setattr__"))) && (decide (PySem.W.subIn K (.ref (He.ga K x)) (.type "BaseException") = some true) &&
  (decide (PySem.W.typeIn K (.ref (He.ga K x)) = some (.type "type")) && (PySem.W.keepIn K (.ref (He.ga K x)) && (xfB K (He.ga K x) && (He.eqO (PySem.W.findIn K (.ref (He.ga K x)) f) (some none) &&
  (He.eqO (PySem.W.findIn K (.ref (He.ga K x)) "__init__") (some (some (.ref (He.ma K (He.ga K x) "__init__")))) && decide (PySem.W.typeIn K (.ref (He.ma K (He.ga K x) "__init__")) = some (.type "function")))))))))
/-- the class x reads its __init__ off ValueError -/
def pinB (K : PySem.W.Frag) (x : Str) : Bool := PySem.W.readsIn K (He.ga K x) (.type "type") && (decide (PySem.W.specialIn K (.ref (He.ga K x)) "__getattribute__" = some (some (.builtin "type.__getattribute__"))) &&
  (match PySem.W.findCls K (.ref (He.ga K x)) (.type "type") "__init__" with
    | some (.val (.builtin i)) => decide (i = "ValueError.__init__")
    | _ => false))
/-- what isinstance asks of the class x -/
def isxC (K : PySem.W.Frag) (C : Addr) : Bool := xfB K C && (He.eqO (PySem.W.findIn K (.ref C) "__class__") (some (some (.builtin "object.__class__"))) && (He.eqO (PySem.W.specialIn K (.builtin "object.__class__") "__get__") (some (some (.builtin "getset_descriptor.__get__"))) &&
  (decide (PySem.W.takesIn K (.builtin "object.__class__") = some true) && (decide (PySem.W.mroIn K C (.type "object") = some true) && decide (PySem.W.kitOne K (.ref C) (.type "ValueError") = some true)))))
/-- no two of these classes are of one another; all are of p -/
def isxB (K : PySem.W.Frag) (p : Str) (xs : List Str) : Bool := (isxC K (He.ga K p) && xs.all fun y => decide (PySem.W.kitOne K (.ref (He.ga K p)) (.ref (He.ga K y)) = some false)) &&
  xs.all fun x => isxC K (He.ga K x) && (decide (PySem.W.kitOne K (.ref (He.ga K x)) (.ref (He.ga K p)) = some true) && xs.all fun y => decide (PySem.W.kitOne K (.ref (He.ga K x)) (.ref (He.ga K y)) = some (decide (y = x))))
def en0 : List Str := ["NoExpression", "NoLine", "NoText"]
def en1 : List Str := []
def en : List Str := en0 ++ en1
def ts : List He.Tab := []
def ex (K : PySem.W.Frag) : Bool := He.tupB K "HELD" [.str "a", .str "b", .str "c", .str "d", .str "x"] && (He.tupB K "SIGNS" [.str "+", .str "-", .str "*", .str "=", .str "<"] && (isxB K "PastError" en))
end M

section
set_option maxRecDepth 100000
namespace M
open PySem PySem.Spec PyProof.Rows L2
set_option maxHeartbeats 0
def nm0 : List PySem.Str := ["PastError", "NoExpression", "NoLine", "NoText", "is_integer", "is_tuple", "HELD", "SIGNS", "DEEPEST_EXPRESSION", "is_expression", "expression_text", "text_of", "read_expression", "expression_in", "expression_at", "_law_pool", "_law_draw", "_law_leaf", "_law_tree", "_law_odd", "_law_nodes", "_law_put", "_law_good", "_law_text", "_law_sign", "_law_change", "_law_read", "_law_same", "_law_asked", "_law_writes"]
def nm1 : List PySem.Str := ["_law_reads"]
def names : List PySem.Str := nm0 ++ nm1
abbrev R : PySem.W.OpenRow := PySem.W.OpenLaw.row PySem.Challenge.rw_pastless_k14_expressions_as_texts
abbrev hk : PySem.W.Hook := He.hookX 4 fa fn ts [] ex
def ob (s : PySem.W.SharedT) : He.AlX := He.obsX 4 fa fn ts [] ex (HandSHeadRun.getT s)
theorem ob_eq (s : PySem.W.SharedT) : ob s = hk.obs s.abs := He.obsX_eq (HandSHeadRun.getT_eq s)
theorem run_false (w : World) : HandSHeadRun.RunEq R (PySem.W.view R.prog [36]) hk ob 8000 names (w.withFollow "special-get-raises" false) := by
  intro os
  kernel_rfl
theorem run_true (w : World) : HandSHeadRun.RunEq R (PySem.W.view R.prog [36]) hk ob 8000 names (w.withFollow "special-get-raises" true) := by
  intro os
  kernel_rfl
theorem run (w : World) : HandSHeadRun.RunEq R (PySem.W.view R.prog [36]) hk ob 8000 names w :=
  PySem.W.byRow2 "special-get-raises" (P := fun w => HandSHeadRun.RunEq R (PySem.W.view R.prog [36]) hk ob 8000 names w) run_false run_true w
end M
end

namespace M
open PySem PySem.Spec PyProof.Rows L2
/-- what the top has written -/
structure Txt (w : World) (K : PySem.W.Frag) (mg : Str → Option Value) : Prop where
  says : ∃ h, He.SaysX fa fn ts [] ex w h K
  X : ∃ h : Heap, K.In h ∧ h.Ns mainGlobals mg
section
variable {P : Program} {w : World} {K : PySem.W.Frag} {mg : Str → Option Value} {base : Heap}
theorem Txt.fact (T : Txt w K mg) (i : Nat) {f : He.Fa} (h : fa[i]? = some f := by rfl) : f.ok K = true := by
  obtain ⟨_, s⟩ := T.says
  exact s.t.d.fact i h
theorem Txt.glo (T : Txt w K mg) (i : Nat) {x : Str} (h : fa[i]? = some (.glo x) := by rfl) : mg x = some (.ref (He.ga K x)) := by
  obtain ⟨_, X, G⟩ := T.X
  exact He.glo_ok X G (T.fact i h)
theorem Txt.fr (T : Txt w K mg) (i : Nat) {x : Str} (h : fa[i]? = some (.free x) := by rfl) : mg x = none := by
  obtain ⟨_, X, G⟩ := T.X
  exact He.free_ok X G (T.fact i h)
theorem Txt.int (T : Txt w K mg) (i : Nat) {x : Str} {n : Int} (h : fa[i]? = some (.int x n) := by rfl) : ∃ u, mg x = some u ∧ RelV (.int n) u := by
  obtain ⟨_, X, G⟩ := T.X
  obtain ⟨t, e⟩ := He.int_ok X G (T.fact i h)
  exact ⟨_, e, ⟨t, rfl⟩⟩
theorem Txt.fd (T : Txt w K mg) (i : Nat) {d : He.DefD} (h : fn[i]? = some d := by rfl) : ∃ f, FunD K d.name d.qual d.params d.body d.scope (d.dvs K) (d.kws K) (He.fAd K d.at_) f := by
  obtain ⟨_, s⟩ := T.says
  exact s.t.d.def_ i h
theorem Txt.ex (T : Txt w K mg) : ex K = true := by
  obtain ⟨_, s⟩ := T.says
  exact s.more
theorem Txt.tab (T : Txt w K mg) (i : Nat) {t : He.Tab} (h : ts[i]? = some t := by rfl) : ∃ es n, KDict K w (t.1 K) es n := by
  obtain ⟨_, s⟩ := T.says
  exact s.t.tab i h
end
/-! places of the facts: 0 glo "is_integer"; 1 glo "is_tuple"; 2 glo "is_expression"; 3 glo "expression_text"; 4 glo "text_of"; 5 glo "read_expression"; 6 glo "expression_in"; 7 glo "expression_at"; 8 glo "_law_pool"; 9 glo "_law_draw"; 10 glo "_law_leaf"; 11 glo "_law_tree"; 12 glo "_law_odd"; 13 glo "_law_nodes"; 14 glo "_law_put"; 15 glo "_law_good"; 16 glo "_law_text"; 17 glo "_law_sign"; 18 glo "_law_change"; 19 glo "_law_read"; 20 glo "_law_same"; 21 glo "_law_asked"; 22 glo "_law_writes"; 23 glo "_law_reads"; 24 glo "law"; 25 glo "PastError"; 26 glo "NoExpression"; 27 glo "NoLine"; 28 glo "NoText"; 29 exc "PastError"; 30 exc "NoExpression"; 31 exm "NoExpression" "NoExpression" true; 32 exm "NoExpression" "PastError" true; 33 free "len"; 34 free "isinstance"; 35 free "int"; 36 free "abs"; 37 free "tuple"; 38 free "list"; 39 free "str"; 40 free "bool"; 41 free "range"; 42 free "zip"; 43 free "enumerate"; 44 free "set"; 45 free "min"; 46 free "max"; 47 free "reversed"; 48 free "sorted"; 49 free "sum"; 50 free "dict"; 51 free "ValueError"; 52 glo "HELD"; 53 glo "SIGNS"; 54 int "DEEPEST_EXPRESSION" (6) -/
section
variable {P : Program} {w : World} {K : PySem.W.Frag} {mg : Str → Option Value} {base : Heap}
theorem Txt.g_is_integer (T : Txt w K mg) : mg "is_integer" = some (.ref (He.ga K "is_integer")) := T.glo 0
theorem Txt.g_is_tuple (T : Txt w K mg) : mg "is_tuple" = some (.ref (He.ga K "is_tuple")) := T.glo 1
theorem Txt.g_is_expression (T : Txt w K mg) : mg "is_expression" = some (.ref (He.ga K "is_expression")) := T.glo 2
theorem Txt.g_expression_text (T : Txt w K mg) : mg "expression_text" = some (.ref (He.ga K "expression_text")) := T.glo 3
theorem Txt.g_text_of (T : Txt w K mg) : mg "text_of" = some (.ref (He.ga K "text_of")) := T.glo 4
theorem Txt.g_read_expression (T : Txt w K mg) : mg "read_expression" = some (.ref (He.ga K "read_expression")) := T.glo 5
theorem Txt.g_expression_in (T : Txt w K mg) : mg "expression_in" = some (.ref (He.ga K "expression_in")) := T.glo 6
theorem Txt.g_expression_at (T : Txt w K mg) : mg "expression_at" = some (.ref (He.ga K "expression_at")) := T.glo 7
theorem Txt.g_law_pool (T : Txt w K mg) : mg "_law_pool" = some (.ref (He.ga K "_law_pool")) := T.glo 8
theorem Txt.g_law_draw (T : Txt w K mg) : mg "_law_draw" = some (.ref (He.ga K "_law_draw")) := T.glo 9
theorem Txt.g_law_leaf (T : Txt w K mg) : mg "_law_leaf" = some (.ref (He.ga K "_law_leaf")) := T.glo 10
theorem Txt.g_law_tree (T : Txt w K mg) : mg "_law_tree" = some (.ref (He.ga K "_law_tree")) := T.glo 11
theorem Txt.g_law_odd (T : Txt w K mg) : mg "_law_odd" = some (.ref (He.ga K "_law_odd")) := T.glo 12
theorem Txt.g_law_nodes (T : Txt w K mg) : mg "_law_nodes" = some (.ref (He.ga K "_law_nodes")) := T.glo 13
theorem Txt.g_law_put (T : Txt w K mg) : mg "_law_put" = some (.ref (He.ga K "_law_put")) := T.glo 14
theorem Txt.g_law_good (T : Txt w K mg) : mg "_law_good" = some (.ref (He.ga K "_law_good")) := T.glo 15
theorem Txt.g_law_text (T : Txt w K mg) : mg "_law_text" = some (.ref (He.ga K "_law_text")) := T.glo 16
theorem Txt.g_law_sign (T : Txt w K mg) : mg "_law_sign" = some (.ref (He.ga K "_law_sign")) := T.glo 17
theorem Txt.g_law_change (T : Txt w K mg) : mg "_law_change" = some (.ref (He.ga K "_law_change")) := T.glo 18
theorem Txt.g_law_read (T : Txt w K mg) : mg "_law_read" = some (.ref (He.ga K "_law_read")) := T.glo 19
theorem Txt.g_law_same (T : Txt w K mg) : mg "_law_same" = some (.ref (He.ga K "_law_same")) := T.glo 20
theorem Txt.g_law_asked (T : Txt w K mg) : mg "_law_asked" = some (.ref (He.ga K "_law_asked")) := T.glo 21
theorem Txt.g_law_writes (T : Txt w K mg) : mg "_law_writes" = some (.ref (He.ga K "_law_writes")) := T.glo 22
theorem Txt.g_law_reads (T : Txt w K mg) : mg "_law_reads" = some (.ref (He.ga K "_law_reads")) := T.glo 23
theorem Txt.g_law (T : Txt w K mg) : mg "law" = some (.ref (He.ga K "law")) := T.glo 24
theorem Txt.g_PastError (T : Txt w K mg) : mg "PastError" = some (.ref (He.ga K "PastError")) := T.glo 25
theorem Txt.g_NoExpression (T : Txt w K mg) : mg "NoExpression" = some (.ref (He.ga K "NoExpression")) := T.glo 26
theorem Txt.g_NoLine (T : Txt w K mg) : mg "NoLine" = some (.ref (He.ga K "NoLine")) := T.glo 27
theorem Txt.g_NoText (T : Txt w K mg) : mg "NoText" = some (.ref (He.ga K "NoText")) := T.glo 28
theorem Txt.x_PastError (T : Txt w K mg) : PySem.W.excIn K (He.ga K "PastError") He.veBase "ValueError.__new__" = true ∧ PySem.W.keepIn K (.ref (He.ga K "PastError")) = true ∧ PySem.W.subIn K (.ref (He.ga K "PastError")) (.type "BaseException") = some true ∧ PySem.W.typeIn K (.ref (He.ga K "PastError")) = some (.type "type") := He.exc_ok (T.fact 29 (f := .exc "PastError"))
theorem Txt.x_NoExpression (T : Txt w K mg) : PySem.W.excIn K (He.ga K "NoExpression") He.veBase "ValueError.__new__" = true ∧ PySem.W.keepIn K (.ref (He.ga K "NoExpression")) = true ∧ PySem.W.subIn K (.ref (He.ga K "NoExpression")) (.type "BaseException") = some true ∧ PySem.W.typeIn K (.ref (He.ga K "NoExpression")) = some (.type "type") := He.exc_ok (T.fact 30 (f := .exc "NoExpression"))
theorem Txt.xm_NoExpression (T : Txt w K mg) : PySem.W.exmOne K (.ref (He.ga K "NoExpression")) (.ref (He.ga K "NoExpression")) = some true := of_decide_eq_true (T.fact 31 (f := .exm "NoExpression" "NoExpression" true))
theorem Txt.xm_NoExpression_PastError (T : Txt w K mg) : PySem.W.exmOne K (.ref (He.ga K "NoExpression")) (.ref (He.ga K "PastError")) = some true := of_decide_eq_true (T.fact 32 (f := .exm "NoExpression" "PastError" true))
theorem Txt.b_len (T : Txt w K mg) : mg "len" = none := T.fr 33
theorem Txt.b_isinstance (T : Txt w K mg) : mg "isinstance" = none := T.fr 34
theorem Txt.b_int (T : Txt w K mg) : mg "int" = none := T.fr 35
theorem Txt.b_abs (T : Txt w K mg) : mg "abs" = none := T.fr 36
theorem Txt.b_tuple (T : Txt w K mg) : mg "tuple" = none := T.fr 37
theorem Txt.b_list (T : Txt w K mg) : mg "list" = none := T.fr 38
theorem Txt.b_str (T : Txt w K mg) : mg "str" = none := T.fr 39
theorem Txt.b_bool (T : Txt w K mg) : mg "bool" = none := T.fr 40
theorem Txt.b_range (T : Txt w K mg) : mg "range" = none := T.fr 41
theorem Txt.b_zip (T : Txt w K mg) : mg "zip" = none := T.fr 42
theorem Txt.b_enumerate (T : Txt w K mg) : mg "enumerate" = none := T.fr 43
theorem Txt.b_set (T : Txt w K mg) : mg "set" = none := T.fr 44
theorem Txt.b_min (T : Txt w K mg) : mg "min" = none := T.fr 45
theorem Txt.b_max (T : Txt w K mg) : mg "max" = none := T.fr 46
theorem Txt.b_reversed (T : Txt w K mg) : mg "reversed" = none := T.fr 47
theorem Txt.b_sorted (T : Txt w K mg) : mg "sorted" = none := T.fr 48
theorem Txt.b_sum (T : Txt w K mg) : mg "sum" = none := T.fr 49
theorem Txt.b_dict (T : Txt w K mg) : mg "dict" = none := T.fr 50
theorem Txt.b_ValueError (T : Txt w K mg) : mg "ValueError" = none := T.fr 51
theorem Txt.g_HELD (T : Txt w K mg) : mg "HELD" = some (.ref (He.ga K "HELD")) := T.glo 52
theorem Txt.g_SIGNS (T : Txt w K mg) : mg "SIGNS" = some (.ref (He.ga K "SIGNS")) := T.glo 53
theorem Txt.i_DEEPEST_EXPRESSION (T : Txt w K mg) : ∃ u, mg "DEEPEST_EXPRESSION" = some u ∧ RelV (.int 6) u := T.int 54
theorem Txt.f_NoText_init (T : Txt w K mg) : ∃ f, FunD K "__init__" "NoText.__init__" (defArgs s_NoText_init) (defBody s_NoText_init) (defScope s_NoText_init) [] [] (He.fAd K ("NoText", some "__init__")) f := T.fd 0
theorem Txt.f_is_integer (T : Txt w K mg) : ∃ f, FunD K "is_integer" "is_integer" (defArgs s_is_integer) (defBody s_is_integer) (defScope s_is_integer) [] [] (He.fAd K ("is_integer", none)) f := T.fd 1
theorem Txt.f_is_tuple (T : Txt w K mg) : ∃ f, FunD K "is_tuple" "is_tuple" (defArgs s_is_tuple) (defBody s_is_tuple) (defScope s_is_tuple) [] [] (He.fAd K ("is_tuple", none)) f := T.fd 2
theorem Txt.f_is_expression (T : Txt w K mg) : ∃ f, FunD K "is_expression" "is_expression" (defArgs s_is_expression) (defBody s_is_expression) (defScope s_is_expression) [] [] (He.fAd K ("is_expression", none)) f := T.fd 3
theorem Txt.f_expression_text (T : Txt w K mg) : ∃ f, FunD K "expression_text" "expression_text" (defArgs s_expression_text) (defBody s_expression_text) (defScope s_expression_text) [] [] (He.fAd K ("expression_text", none)) f := T.fd 4
theorem Txt.f_text_of (T : Txt w K mg) : ∃ f, FunD K "text_of" "text_of" (defArgs s_text_of) (defBody s_text_of) (defScope s_text_of) [] [] (He.fAd K ("text_of", none)) f := T.fd 5
theorem Txt.f_read_expression (T : Txt w K mg) : ∃ f, FunD K "read_expression" "read_expression" (defArgs s_read_expression) (defBody s_read_expression) (defScope s_read_expression) [] [] (He.fAd K ("read_expression", none)) f := T.fd 6
theorem Txt.f_expression_in (T : Txt w K mg) : ∃ f, FunD K "expression_in" "expression_in" (defArgs s_expression_in) (defBody s_expression_in) (defScope s_expression_in) [] [] (He.fAd K ("expression_in", none)) f := T.fd 7
theorem Txt.f_expression_at (T : Txt w K mg) : ∃ f, FunD K "expression_at" "expression_at" (defArgs s_expression_at) (defBody s_expression_at) (defScope s_expression_at) [] [] (He.fAd K ("expression_at", none)) f := T.fd 8
theorem Txt.f_l_pool (T : Txt w K mg) : ∃ f, FunD K "_law_pool" "_law_pool" (defArgs s_l_pool) (defBody s_l_pool) (defScope s_l_pool) [] [] (He.fAd K ("_law_pool", none)) f := T.fd 9
theorem Txt.f_l_draw (T : Txt w K mg) : ∃ f, FunD K "_law_draw" "_law_draw" (defArgs s_l_draw) (defBody s_l_draw) (defScope s_l_draw) [] [] (He.fAd K ("_law_draw", none)) f := T.fd 10
theorem Txt.f_l_leaf (T : Txt w K mg) : ∃ f, FunD K "_law_leaf" "_law_leaf" (defArgs s_l_leaf) (defBody s_l_leaf) (defScope s_l_leaf) [] [] (He.fAd K ("_law_leaf", none)) f := T.fd 11
theorem Txt.f_l_tree (T : Txt w K mg) : ∃ f, FunD K "_law_tree" "_law_tree" (defArgs s_l_tree) (defBody s_l_tree) (defScope s_l_tree) [] [] (He.fAd K ("_law_tree", none)) f := T.fd 12
theorem Txt.f_l_odd (T : Txt w K mg) : ∃ f, FunD K "_law_odd" "_law_odd" (defArgs s_l_odd) (defBody s_l_odd) (defScope s_l_odd) [] [] (He.fAd K ("_law_odd", none)) f := T.fd 13
theorem Txt.f_l_nodes (T : Txt w K mg) : ∃ f, FunD K "_law_nodes" "_law_nodes" (defArgs s_l_nodes) (defBody s_l_nodes) (defScope s_l_nodes) [] [] (He.fAd K ("_law_nodes", none)) f := T.fd 14
theorem Txt.f_l_put (T : Txt w K mg) : ∃ f, FunD K "_law_put" "_law_put" (defArgs s_l_put) (defBody s_l_put) (defScope s_l_put) [] [] (He.fAd K ("_law_put", none)) f := T.fd 15
theorem Txt.f_l_good (T : Txt w K mg) : ∃ f, FunD K "_law_good" "_law_good" (defArgs s_l_good) (defBody s_l_good) (defScope s_l_good) [] [] (He.fAd K ("_law_good", none)) f := T.fd 16
theorem Txt.f_l_text (T : Txt w K mg) : ∃ f, FunD K "_law_text" "_law_text" (defArgs s_l_text) (defBody s_l_text) (defScope s_l_text) [] [] (He.fAd K ("_law_text", none)) f := T.fd 17
theorem Txt.f_l_sign (T : Txt w K mg) : ∃ f, FunD K "_law_sign" "_law_sign" (defArgs s_l_sign) (defBody s_l_sign) (defScope s_l_sign) [] [] (He.fAd K ("_law_sign", none)) f := T.fd 18
theorem Txt.f_l_change (T : Txt w K mg) : ∃ f, FunD K "_law_change" "_law_change" (defArgs s_l_change) (defBody s_l_change) (defScope s_l_change) [] [] (He.fAd K ("_law_change", none)) f := T.fd 19
theorem Txt.f_l_read (T : Txt w K mg) : ∃ f, FunD K "_law_read" "_law_read" (defArgs s_l_read) (defBody s_l_read) (defScope s_l_read) [] [] (He.fAd K ("_law_read", none)) f := T.fd 20
theorem Txt.f_l_same (T : Txt w K mg) : ∃ f, FunD K "_law_same" "_law_same" (defArgs s_l_same) (defBody s_l_same) (defScope s_l_same) [] [] (He.fAd K ("_law_same", none)) f := T.fd 21
theorem Txt.f_l_asked (T : Txt w K mg) : ∃ f, FunD K "_law_asked" "_law_asked" (defArgs s_l_asked) (defBody s_l_asked) (defScope s_l_asked) [] [] (He.fAd K ("_law_asked", none)) f := T.fd 22
theorem Txt.f_l_writes (T : Txt w K mg) : ∃ f, FunD K "_law_writes" "_law_writes" (defArgs s_l_writes) (defBody s_l_writes) (defScope s_l_writes) [] [] (He.fAd K ("_law_writes", none)) f := T.fd 23
theorem Txt.f_l_reads (T : Txt w K mg) : ∃ f, FunD K "_law_reads" "_law_reads" (defArgs s_l_reads) (defBody s_l_reads) (defScope s_l_reads) [] [] (He.fAd K ("_law_reads", none)) f := T.fd 24
theorem Txt.f_law (T : Txt w K mg) : ∃ f, FunD K "law" "law" (defArgs s_law) (defBody s_law) (defScope s_law) [] [] (He.fAd K ("law", none)) f := T.fd 25
theorem Txt.e_HELD (T : Txt w K mg) : He.tupB K "HELD" [.str "a", .str "b", .str "c", .str "d", .str "x"] = true := (He.ba T.ex).1
theorem Txt.e_SIGNS (T : Txt w K mg) : He.tupB K "SIGNS" [.str "+", .str "-", .str "*", .str "=", .str "<"] = true := (He.ba (He.ba T.ex).2).1
theorem Txt.e_isx (T : Txt w K mg) : isxB K "PastError" en = true := (He.ba (He.ba T.ex).2).2
end
end M

set_option Elab.async false
set_option linter.all false
set_option maxRecDepth 100000
set_option maxHeartbeats 2000000
namespace M
open PySem PySem.Spec PyProof.Rows L2
/-! ### defs by their names, what they promise -/
/-- the global name x holds a def that keeps sp at level k -/
structure Ca (P : Program) (w : World) (K : PySem.W.Frag) (mg : Str → Option Value) (base : Heap) (k : Nat) (x : Str) (sp : Sp) : Prop where
  ex : ∃ (f : Addr) (fd : FuncData) (ps : List Str), FnOk P w K mg base CX0 k f fd ps sp ∧ mg x = some (.ref f) ∧ PySem.W.keepIn K (.ref f) = true ∧ Binds K fd ps []
/-- a method of the class C -/
structure Me (P : Program) (w : World) (K : PySem.W.Frag) (mg : Str → Option Value) (base : Heap) (k : Nat) (C : Addr) (m : Str) (sp : Sp) : Prop where
  ex : ∃ (f : Addr) (fd : FuncData) (ps : List Str), Cls K C ∧ Meth K C m f ∧ FnOk P w K mg base CX0 k f fd ps sp ∧ Binds K fd ps []
/-- the class x is made by its __init__ -/
structure Ma (P : Program) (w : World) (K : PySem.W.Frag) (mg : Str → Option Value) (base : Heap) (k : Nat) (x : Str) (C : Addr) (sp : Sp) : Prop where
  ex : ∃ (f : Addr) (fd : FuncData) (ps : List Str), Mk K C f ∧ FnOk P w K mg base CX0 k f fd ps sp ∧ mg x = some (.ref C) ∧ Binds K fd ps []
section
variable {P : Program} {w : World} {K : PySem.W.Frag} {mg : Str → Option Value} {base : Heap} {x m q : Str} {st : Stmt} {N ps : List Str} {k : Nat} {sp : Sp} {C f : Addr}
abbrev BindsH (x q : Str) (st : Stmt) (ps : List Str) : Prop := ∀ (kV doc pm : Value) (an : Option Addr) (cdv ct : Value) (us : List Value), us.length = ps.length → bindArgs (PySem.W.fnOf x q (defArgs st) (defBody st) (defScope st) .none kV doc pm an cdv ct) ⟨us, []⟩ = pure (ps.zip us)
abbrev BodyH (P : Program) (w : World) (K : PySem.W.Frag) (mg : Str → Option Value) (base : Heap) (q : Str) (st : Stmt) (N : List Str) (k : Nat) (f : Addr) (sp : Sp) : Prop := ∀ (cdv : Value) (A : Around) (outer : List Env) (s : Shared) (H : Hp) (vs : List V) (Q : VK) (E : XK), Room k (A.deeper (envOfC q (defScope st) s.heap.objs.size f cdv)) → sp vs H Q E →
      ∃ t, PSs (cxOf CX0 P w K mg base N q (defScope st) f cdv A outer s H E).nox (defBody st) t ∧ t { nx := fun _ H' => Q .non H', rt := Q } (start N vs) H
theorem fn_d {fd : FuncData} (F : FunD K x q (defArgs st) (defBody st) (defScope st) [] [] f fd) (S : FnScope N ps (defScope st)) (len : ∀ vs H Q E, sp vs H Q E → vs.length = ps.length)
    (hbody : BodyH P w K mg base q st N k f sp) : FnOk P w K mg base CX0 (k + 1) f fd ps sp := by
  refine F.ok S len (fun cdv A outer s H vs Q E hr h => ?_)
  obtain ⟨t, h1, h2⟩ := hbody cdv A outer s H vs Q E hr h
  exact ⟨t, h1.nox, h2⟩
theorem ca_of (F : ∃ fd, FunD K x x (defArgs st) (defBody st) (defScope st) [] [] (He.fAd K (x, none)) fd) (g : mg x = some (.ref (He.ga K x))) (S : FnScope N ps (defScope st)) (hb : BindsH x x st ps) (len : ∀ vs H Q E, sp vs H Q E → vs.length = ps.length)
    (hbody : BodyH P w K mg base x st N k (He.fAd K (x, none)) sp) : Ca P w K mg base (k + 1) x sp := by
  obtain ⟨fd, F⟩ := F
  exact ⟨_, fd, ps, fn_d F S len hbody, g, F.kp, F.bindsN hb⟩
theorem me_of {C : Str} (F : ∃ fd, FunD K m q (defArgs st) (defBody st) (defScope st) [] [] (He.fAd K (C, some m)) fd) (c : Cls K (He.ga K C)) (g : Meth K (He.ga K C) m (He.ma K (He.ga K C) m)) (S : FnScope N ps (defScope st)) (hb : BindsH m q st ps) (len : ∀ vs H Q E, sp vs H Q E → vs.length = ps.length)
    (hbody : BodyH P w K mg base q st N k (He.fAd K (C, some m)) sp) : Me P w K mg base (k + 1) (He.ga K C) m sp := by
  obtain ⟨fd, F⟩ := F
  exact ⟨_, fd, ps, c, g, fn_d F S len hbody, F.bindsN hb⟩
theorem ma_of {C : Str} (F : ∃ fd, FunD K "__init__" q (defArgs st) (defBody st) (defScope st) [] [] (He.fAd K (C, some "__init__")) fd) (g : mg C = some (.ref (He.ga K C))) (mk : Mk K (He.ga K C) (He.ma K (He.ga K C) "__init__")) (S : FnScope N ps (defScope st)) (hb : BindsH "__init__" q st ps) (len : ∀ vs H Q E, sp vs H Q E → vs.length = ps.length)
    (hbody : BodyH P w K mg base q st N k (He.fAd K (C, some "__init__")) sp) : Ma P w K mg base (k + 1) C (He.ga K C) sp := by
  obtain ⟨fd, F⟩ := F
  exact ⟨_, fd, ps, mk, fn_d F S len hbody, g, F.bindsN hb⟩
theorem Ca.mono {j : Nat} (c : Ca P w K mg base j x sp) (h : j ≤ k) : Ca P w K mg base k x sp := by
  obtain ⟨f, fd, ps, F, r⟩ := c.ex
  exact ⟨f, fd, ps, F.mono h, r⟩
end
section
variable {X : Cx} {k j : Nat} {x m : Str} {sp : Sp} {C : Addr} {p pos apos : Pos} {e o : Expr} {es : List Expr} {t : TA} {ta : TE}
theorem pe_ca (c : Ca X.prog X.w X.K X.mg X.base k x sp) (hr : Room j X.A) (ha : PA X (e :: es) t) (hk : k ≤ j := by decide) (hg : Gl X x := by rfl)
    (hdb : (x == ("__debug__" : Str)) = false := by decide) (he : starEach (e :: es) X.env = (false, eval e X.env) :: starEach es X.env := by rfl) (hpl : (backTo pos (starEach es X.env)).any (·.1) = false := by rfl) :
    PE X (.Call (.Name x p) (e :: es) [] pos) (tCall sp [] E0 t) := by
  obtain ⟨f, fd, ps, F, hm, kp, b⟩ := c.ex
  exact pe_call F (hr.mono hk) hg hm kp b .nil pass0 ha hdb he hpl
theorem pe_ma (c : Ma X.prog X.w X.K X.mg X.base k x C sp) (hr : Room j X.A) (ha : PA X (e :: es) t) (hk : k + 1 ≤ j := by decide) (hg : Gl X x := by rfl)
    (hdb : (x == ("__debug__" : Str)) = false := by decide) (he : starEach (e :: es) X.env = (false, eval e X.env) :: starEach es X.env := by rfl) (hpl : (backTo pos (starEach es X.env)).any (·.1) = false := by rfl) :
    PE X (.Call (.Name x p) (e :: es) [] pos) (tMake C sp [] E0 t) := by
  obtain ⟨f, fd, ps, M, F, hm, b⟩ := c.ex
  exact pe_make M F (hr.mono hk) hg hm b .nil pass0 ha hdb he hpl
theorem pe_me0 {pl : Sem Bool} (c : Me X.prog X.w X.K X.mg X.base k C m sp) (hr : Room j X.A) (he : PE X o ta) (hk : k ≤ j := by decide)
    (ht : eval (.Call (.Attribute o m apos) [] [] pos) X.env = (do
      let ov ← eval o X.env
      standAt apos.atName
      let (f, first) ← holding [ov] (getMethod ov m pl)
      callWith pos f first (backTo pos (starEach [] X.env)) (backToKw pos (keywordEach [] X.env))) := by rfl) :
    PE X (.Call (.Attribute o m apos) [] [] pos) (tMeth C m sp [] E0 ta tNil) := by
  obtain ⟨f, fd, ps, hc, hm, F, b⟩ := c.ex
  exact pe_meth0 (pl := pl) he hc hm F (hr.mono hk) b .nil pass0 ht
theorem pe_me {pl : Sem Bool} (c : Me X.prog X.w X.K X.mg X.base k C m sp) (hr : Room j X.A) (he : PE X o ta) (ha : PA X (e :: es) t) (hk : k ≤ j := by decide)
    (hst : starEach (e :: es) X.env = (false, eval e X.env) :: starEach es X.env := by rfl) (hpl : (backTo pos (starEach es X.env)).any (·.1) = false := by rfl)
    (ht : eval (.Call (.Attribute o m apos) (e :: es) [] pos) X.env = (do
      let ov ← eval o X.env
      standAt apos.atName
      let (f, first) ← holding [ov] (getMethod ov m pl)
      callWith pos f first (backTo pos (starEach (e :: es) X.env)) (backToKw pos (keywordEach [] X.env))) := by rfl) :
    PE X (.Call (.Attribute o m apos) (e :: es) [] pos) (tMeth C m sp [] E0 ta t) := by
  obtain ⟨f, fd, ps, hc, hm, F, b⟩ := c.ex
  exact pe_meth (pl := pl) he hc hm F (hr.mono hk) b .nil pass0 ha hst hpl ht
/-- isinstance(a, b) -/
theorem pe_isi {a b : Expr} {ta tb : TE} (h : X.mg "isinstance" = none) (ha : PE X a ta) (hb : PE X b tb) (hg : Gl X "isinstance" := by rfl)
    (he : starEach [a, b] X.env = (false, eval a X.env) :: starEach [b] X.env := by rfl) (hpl : (backTo pos (starEach [b] X.env)).any (·.1) = false := by rfl)
    (he2 : starEach [b] X.env = (false, eval b X.env) :: starEach [] X.env := by rfl) :
    PE X (.Call (.Name "isinstance" p) [a, b] [] pos) (tCB (rIsi X.K) (tCons ta (tCons tb tNil))) :=
  pe_callB call_isi hg h boot_isinstance (pa_cons ha (pa_cons hb pa_nil he2) he) (he := he) (hpl := hpl)
/-- a built-in class as a value -/
theorem pe_ty {n : String} {x : Str} (h : X.mg x = none) (hv : bootBuiltins x = some (.type n)) (hg : Gl X x := by rfl) (hn : x ≠ "__name__" := by decide) (hd : (x == ("__debug__" : Str)) = false := by decide) : PE X (.Name x pos) (tC (.ty n)) := pe_bltn hg h hv rfl hn hd
theorem pe_gi {n : Int} {x : Str} (h : ∃ u, X.mg x = some u ∧ RelV (.int n) u) (hg : Gl X x := by rfl) (hd : (x == ("__debug__" : Str)) = false := by decide) : PE X (.Name x pos) (tC (.int n)) := by
  obtain ⟨u, hm, r⟩ := h
  exact pe_glob hg hm r hd
theorem pe_gr {x : Str} {a : Addr} (h : X.mg x = some (.ref a)) (hg : Gl X x := by rfl) (hd : (x == ("__debug__" : Str)) = false := by decide) : PE X (.Name x pos) (tC (.ref a)) := pe_glob hg h rfl hd
end
section
variable {X : Cx} {i j k : Nat} {x y z : Str} {p1 p2 p3 pos : Pos} {n : Nat}
/-- a, b as a target -/
theorem pg_two (K : PySem.W.Frag) (i j : Nat) (hK : X.K = K) (hc : X.calm = true) (nd : X.N.Nodup) (hi : X.N[i]? = some x) (hj : X.N[j]? = some y) (hx : Loc X.env.scope x) (hy : Loc X.env.scope y)
    (fx : X.fn x = true ∨ X.env.scope.names.lookup x = some .local) (fy : X.fn y = true ∨ X.env.scope.names.lookup y = some .local) :
    PG X (.Tuple [.Name x p1, .Name y p2] n pos) (gTup K 2 (gCons (gName i) (gCons (gName j) gNil))) := hK ▸
  pg_tup hc (pgs_cons (pg_name nd hi hx fx) (pgs_cons (pg_name nd hj hy fy) pgs_nil))
/-- a, b, c as a target -/
theorem pg_three (K : PySem.W.Frag) (i j k : Nat) (hK : X.K = K) (hc : X.calm = true) (nd : X.N.Nodup) (hi : X.N[i]? = some x) (hj : X.N[j]? = some y) (hk : X.N[k]? = some z) (hx : Loc X.env.scope x) (hy : Loc X.env.scope y) (hz : Loc X.env.scope z)
    (fx : X.fn x = true ∨ X.env.scope.names.lookup x = some .local) (fy : X.fn y = true ∨ X.env.scope.names.lookup y = some .local) (fz : X.fn z = true ∨ X.env.scope.names.lookup z = some .local) :
    PG X (.Tuple [.Name x p1, .Name y p2, .Name z p3] n pos) (gTup K 3 (gCons (gName i) (gCons (gName j) (gCons (gName k) gNil)))) := hK ▸
  pg_tup hc (pgs_cons (pg_name nd hi hx fx) (pgs_cons (pg_name nd hj hy fy) (pgs_cons (pg_name nd hk hz fz) pgs_nil)))
end
theorem boot_int : bootBuiltins "int" = some (.type "int") := by decide +kernel
theorem boot_bool : bootBuiltins "bool" = some (.type "bool") := by decide +kernel
theorem boot_str : bootBuiltins "str" = some (.type "str") := by decide +kernel
theorem boot_list : bootBuiltins "list" = some (.type "list") := by decide +kernel
theorem boot_tuple : bootBuiltins "tuple" = some (.type "tuple") := by decide +kernel
theorem boot_abs : bootBuiltins "abs" = some (.builtin "abs") := by decide +kernel
theorem boot_max : bootBuiltins "max" = some (.builtin "max") := by decide +kernel
theorem boot_min : bootBuiltins "min" = some (.builtin "min") := by decide +kernel
theorem boot_set : bootBuiltins "set" = some (.type "set") := by decide +kernel
/-! ### kinds of values -/
/-- the kinds that the program asks for -/
inductive Kd where
  | non | bool | int | str | list | tuple | dict | obj
  deriving DecidableEq
def Kd.name : Kd → String
  | .non => "NoneType" | .bool => "bool" | .int => "int" | .str => "str" | .list => "list" | .tuple => "tuple" | .dict => "dict" | .obj => "object"
/-- isinstance's answer -/
def Kd.is (k c : Kd) : Bool := decide (k = c) || (decide (k = .bool) && decide (c = .int))
theorem kd_kit {K : PySem.W.Frag} (k c : Kd) (h : k ≠ .obj) (h2 : c ≠ .obj) : PySem.W.kitOne K (.type k.name) (.type c.name) = some (k.is c) := by
  refine kit_ty ?_
  cases k <;> cases c <;> first | decide +kernel | exact absurd rfl h | exact absurd rfl h2
/-- v is of the kind k -/
inductive Of (K : PySem.W.Frag) (H : Hp) : V → Kd → Prop where
  | non : Of K H .non .non
  | bl (b : Bool) : Of K H (.bl b) .bool
  | int (i : Int) : Of K H (.int i) .int
  | str (x : Str) : Of K H (.str x) .str
  | list {a : Addr} {xs : List V} (h : SqL K H a xs) : Of K H (.ref a) .list
  | tuple {a : Addr} {xs : List V} (h : SqT K H a xs) : Of K H (.ref a) .tuple
  | dict {a : Addr} (h : TyX K H (.ref a) (.type "dict")) : Of K H (.ref a) .dict
  | obj {a C : Addr} (h : TyX K H (.ref a) (.ref C)) (hk : ∀ c : Kd, c ≠ .obj → PySem.W.kitOne K (.ref C) (.type c.name) = some false) : Of K H (.ref a) .obj
theorem ty_sqL {K : PySem.W.Frag} {H : Hp} {a : Addr} {xs : List V} (h : SqL K H a xs) : TyX K H (.ref a) (.type "list") := by
  rcases h with (h | ⟨o, h⟩) | ⟨o, its, n, h1, h2, _⟩
  · exact .base (.lst h)
  · exact .base (.frz h)
  · exact .kList h1 h2
theorem ty_sqT {K : PySem.W.Frag} {H : Hp} {a : Addr} {xs : List V} (h : SqT K H a xs) : TyX K H (.ref a) (.type "tuple") := by
  rcases h with (h | ⟨o, h⟩) | ⟨o, its, n, h1, h2, _⟩
  · exact .base (.tup h)
  · exact .fTuple h
  · exact .kTuple h1 h2
/-- what isinstance(v, c) comes to -/
theorem isi_k {K : PySem.W.Frag} {H : Hp} {v : V} {k : Kd} (c : Kd) {Q : VK} (h : Of K H v k) (q : Q (.bl (k.is c)) H) (hc : c ≠ .obj := by decide) : rIsi K [v, .ty c.name] H Q := by
  cases h with
  | non => exact ⟨_, _, _, _, _, rfl, .ty _, .base .non, kd_kit .non c (by decide) hc, q⟩
  | bl b => exact ⟨_, _, _, _, _, rfl, .ty _, .base (.bl b), kd_kit .bool c (by decide) hc, q⟩
  | int b => exact ⟨_, _, _, _, _, rfl, .ty _, .base (.int b), kd_kit .int c (by decide) hc, q⟩
  | str b => exact ⟨_, _, _, _, _, rfl, .ty _, .base (.str b), kd_kit .str c (by decide) hc, q⟩
  | list b => exact ⟨_, _, _, _, _, rfl, .ty _, ty_sqL b, kd_kit .list c (by decide) hc, q⟩
  | tuple b => exact ⟨_, _, _, _, _, rfl, .ty _, ty_sqT b, kd_kit .tuple c (by decide) hc, q⟩
  | dict b => exact ⟨_, _, _, _, _, rfl, .ty _, b, kd_kit .dict c (by decide) hc, q⟩
  | obj b hk => 
    have e : Kd.is .obj c = false := by cases c <;> first | rfl | exact absurd rfl hc
    rw [e] at q
    exact ⟨_, _, _, _, _, rfl, .ty _, b, hk c hc, q⟩
theorem pe_imp {X : Cx} {e : Expr} {t t' : TE} (h : PE X e t) (i : ∀ σ H Q, t' σ H Q → t σ H Q) : PE X e t' := ⟨fun pins s σ H Q I q => h.run pins s σ H Q I (i σ H Q q)⟩
theorem callR_imp {X : Cx} {f : Value} {r r' : List V → Hp → VK → Prop} (h : CallR X f r) (i : ∀ vs H Q, r' vs H Q → r vs H Q) : CallR X f r' := fun pins s σ H xs us Q I rv q => h pins s σ H xs us Q I rv (i xs H Q q)
/-- isinstance(v, c): its kind -/
def rIs (K : PySem.W.Frag) (c : Kd) : List V → Hp → VK → Prop := fun xs H Q => ∃ (v : V) (k : Kd), xs = [v, .ty c.name] ∧ Of K H v k ∧ Q (.bl (k.is c)) H
theorem call_is {X : Cx} (c : Kd) (hc : c ≠ .obj := by decide) : CallR X (.builtin "isinstance") (rIs X.K c) := callR_imp call_isi fun vs H Q ⟨v, k, e, h, q⟩ => by
  subst e
  exact isi_k c h q hc
section
variable {X : Cx} {a : Expr} {ta : TE} {x : Str} {p p2 pos : Pos}
theorem pe_is (c : Kd) (h : X.mg "isinstance" = none) (ha : PE X a ta) (hm : X.mg x = none) (hv : bootBuiltins x = some (.type c.name)) (hc : c ≠ .obj := by decide) (hg2 : Gl X x := by rfl) (hn : x ≠ "__name__" := by decide) (hd : (x == ("__debug__" : Str)) = false := by decide) (hg : Gl X "isinstance" := by rfl)
    (he : starEach [a, .Name x p2] X.env = (false, eval a X.env) :: starEach [.Name x p2] X.env := by rfl) (hpl : (backTo pos (starEach [.Name x p2] X.env)).any (·.1) = false := by rfl)
    (he2 : starEach [.Name x p2] X.env = (false, eval (.Name x p2) X.env) :: starEach [] X.env := by rfl) :
    PE X (.Call (.Name "isinstance" p) [a, .Name x p2] [] pos) (tCB (rIs X.K c) (tCons ta (tCons (tC (.ty c.name)) tNil))) :=
  pe_callB (call_is c hc) hg h boot_isinstance (pa_cons ha (pa_cons (pe_ty (pos := p2) hm hv hg2 hn hd) pa_nil he2) he) (he := he) (hpl := hpl)
end
/-! ### data -/
theorem same_t {K : PySem.W.Frag} {H H' : Hp} {a : Addr} {xs : List V} (e : Same H H') (h : SqT K H a xs) : SqT K H' a xs := by
  rcases h with (h | ⟨o, h⟩) | h
  · exact .inl (.inl (e _ _ h))
  · exact .inl (.inr ⟨o, e _ _ h⟩)
  · exact .inr h
theorem same_new {H : Hp} {p : Addr} {o : HO} (h : H p = none) : Same H (upd H p o) := fun a u e => by
  rw [upd_ne (ne_of_none e h)]
  exact e
mutual
theorem dp_same {K : PySem.W.Frag} {H H' : Hp} (e : Same H H') : ∀ {v : V} {d : PyData}, Dp K H v d → Dp K H' v d
  | _, _, .non => .non
  | _, _, .bl b => .bl b
  | _, _, .int i => .int i
  | _, _, .str x => .str x
  | _, _, .lst h r => .lst (e.seq h) (dps_same e r)
  | _, _, .tup h r => .tup (same_t e h) (dps_same e r)
theorem dps_same {K : PySem.W.Frag} {H H' : Hp} (e : Same H H') : ∀ {vs : List V} {ds : List PyData}, DpAll K H vs ds → DpAll K H' vs ds
  | _, _, .nil => .nil
  | _, _, .cons h r => .cons (dp_same e h) (dps_same e r)
end
def kdOf : PyData → Kd
  | .bool _ => .bool
  | .int _ => .int
  | .str _ => .str
  | .list _ => .list
  | .tuple _ => .tuple
  | _ => .non
theorem dp_kd {K : PySem.W.Frag} {H : Hp} {v : V} {d : PyData} (h : Dp K H v d) : Of K H v (kdOf d) := by
  cases h with
  | non => exact .non
  | bl b => exact .bl b
  | int i => exact .int i
  | str x => exact .str x
  | lst h _ => exact .list h
  | tup h _ => exact .tuple h
end M

set_option Elab.async false
set_option linter.all false
set_option maxRecDepth 100000
set_option maxHeartbeats 2000000
namespace M
open PySem PySem.Spec PyProof.Rows L2

section
variable {P : Program} {w : World} {K : PySem.W.Frag} {mg : Str → Option Value} {base : Heap}
/-! ### pastless.checks -/
def spInteger (K : PySem.W.Frag) : Sp := fun vs H Q _ => ∃ (v : V) (k : Kd), vs = [v] ∧ Of K H v k ∧ Q (.bl (decide (k = .int))) H
theorem ca_is_integer (T : Txt w K mg) : Ca P w K mg base 1 "is_integer" (spInteger K) := by
  refine ca_of (N := ["value"]) (ps := ["value"]) T.f_is_integer T.g_is_integer ⟨rfl, rfl, rfl, by decide +kernel, rfl, by decide +kernel, by decide +kernel⟩ (fun _ _ _ _ _ _ us hl => match us, hl with | [_], _ => rfl)
    (fun vs H Q E h => by obtain ⟨v, k, rfl, hk, q⟩ := h; rfl) (fun cdv A outer s H vs Q E hr h => ?_)
  have nd : (["value"] : List Str).Nodup := by decide +kernel
  obtain ⟨v, k, rfl, hk, q⟩ := h
  refine ⟨_, pss_one (ps_ret (pe_and (pe_is .int T.b_isinstance (pv 0) T.b_int boot_int) (pe_one (pe_not (pe_is .bool T.b_isinstance (pv 0) T.b_bool boot_bool))))), ?_⟩
  refine ⟨_, rfl, _, _, rfl, hk, _, rfl, ?_⟩
  cases k <;> first | exact iteF q | exact iteT ⟨_, rfl, _, _, rfl, hk, _, rfl, q⟩
def spWithin : Sp := fun vs H Q _ => ∃ (i lo hi : Int), vs = [.int i, .int lo, .int hi] ∧ Q (.bl (decide (lo ≤ i) && decide (i ≤ hi))) H
/-- within its bounds -/
theorem within_t {i lo hi : Int} (h : lo ≤ i ∧ i ≤ hi) : (decide (lo ≤ i) && decide (i ≤ hi)) = true := by simp [h.1, h.2]
def spTuple (K : PySem.W.Frag) : Sp := fun vs H Q _ => ∃ (a : Addr) (xs : List V) (n : Int), vs = [.ref a, .int n] ∧ SqT K H a xs ∧ Q (.bl (decide ((xs.length : Int) = n))) H
theorem ca_is_tuple (T : Txt w K mg) : Ca P w K mg base 1 "is_tuple" (spTuple K) := by
  refine ca_of (N := ["value", "length"]) (ps := ["value", "length"]) T.f_is_tuple T.g_is_tuple ⟨rfl, rfl, rfl, by decide +kernel, rfl, by decide +kernel, by decide +kernel⟩ (fun _ _ _ _ _ _ us hl => match us, hl with | [_, _], _ => rfl)
    (fun vs H Q E h => by obtain ⟨a, xs, n, rfl, hs, q⟩ := h; rfl) (fun cdv A outer s H vs Q E hr h => ?_)
  have nd : (["value", "length"] : List Str).Nodup := by decide +kernel
  obtain ⟨a, xs, n, rfl, hs, q⟩ := h
  refine ⟨_, pss_one (ps_ret (pe_and (pe_is .tuple T.b_isinstance (pv 0) T.b_tuple boot_tuple) (pe_one (pe_cmpR op_eq (pe_callB call_len_seq (by rfl) T.b_len PySem.boot_len (pa_cons (pv 0) pa_nil)) (pv 1) (nomark _))))), ?_⟩
  refine ⟨_, rfl, _, _, rfl, .tuple hs, _, rfl, iteT ?_⟩
  refine ⟨_, rfl, _, _, rfl, .inr hs, _, rfl, rfl, ?_⟩
  rw [show (decide (V.int (xs.length : Int) = V.int n)) = decide ((xs.length : Int) = n) from by simp]
  exact q
/-- hs is a state of cells of the sizes ss -/
def StateOk (ss hs : List Int) : Prop := ss.length = hs.length ∧ ∀ (i : Nat) (s h : Int), ss[i]? = some s → hs[i]? = some h → 0 ≤ h ∧ h < s
theorem get_map {l : List Int} {i : Nat} {x : V} (h : (l.map V.int)[i]? = some x) : ∃ z, l[i]? = some z ∧ x = .int z := by
  rw [List.getElem?_map] at h
  cases e : l[i]? with
  | none => rw [e] at h; cases h
  | some z => rw [e] at h; exact ⟨z, rfl, (Option.some.inj h).symm⟩
def spState (K : PySem.W.Frag) : Sp := fun vs H Q _ => ∃ (a b : Addr) (ss hs : List Int), vs = [.ref a, .ref b] ∧ SqT K H a (ss.map .int) ∧ SqT K H b (hs.map .int) ∧ StateOk ss hs ∧ ∀ H', Same H H' → Q (.bl true) H'
end

end M

set_option Elab.async false
set_option linter.all false
set_option maxRecDepth 100000
set_option maxHeartbeats 2000000
namespace M
open PySem PySem.Spec PyProof.Rows L2

/-! ### what bodies, codes and vaults are -/
inductive Exp where
  | num (n : Int) | reg (r : Str) | op (s : Str) (a b : Exp)
def Exp.d : Exp → PyData
  | .num n => .int n
  | .reg r => .str r
  | .op s a b => .tuple [.str s, a.d, b.d]
inductive Row where
  | read (r : Str) (c : Int) | set (c : Int) (e : Exp) | swap (r : Str) (c : Int) (e f : Exp) | keep (r : Str) (e : Exp) | coin (r : Str)
  | iff (e : Exp) (a b : List Row) | times (e : Exp) (a : List Row) | ans (e : Exp)
mutual
def Row.d : Row → PyData
  | .read r c => .tuple [.str "read", .str r, .int c]
  | .set c e => .tuple [.str "set", .int c, e.d]
  | .swap r c e f => .tuple [.str "swap", .str r, .int c, e.d, f.d]
  | .keep r e => .tuple [.str "keep", .str r, e.d]
  | .coin r => .tuple [.str "coin", .str r]
  | .iff e a b => .tuple [.str "if", e.d, .tuple (rowsD a), .tuple (rowsD b)]
  | .times e a => .tuple [.str "times", e.d, .tuple (rowsD a)]
  | .ans e => .tuple [.str "answer", e.d]
def rowsD : List Row → List PyData
  | [] => []
  | r :: rs => r.d :: rowsD rs
end
/-- a row of a code -/
inductive FR where
  | row (r : Row) | unless (e : Exp) (p : Nat) | on (p : Nat) | rounds (e : Exp) | round (p : Nat) | hole
def FR.d : FR → PyData
  | .row r => r.d
  | .unless e p => .tuple [.str "unless", e.d, .int p]
  | .on p => .tuple [.str "on", .int p]
  | .rounds e => .tuple [.str "rounds", e.d]
  | .round p => .tuple [.str "round", .int p]
  | .hole => .tuple []
mutual
def putRow : Row → List FR → List FR
  | .iff e a b, c =>
    let c1 := putRows a (c ++ [FR.hole])
    let c2 := putRows b ((c1 ++ [FR.hole]).set c.length (FR.unless e (c1.length + 1)))
    c2.set c1.length (FR.on c2.length)
  | .times e a, c =>
    let c1 := putRows a (c ++ [FR.rounds e, FR.hole])
    (c1 ++ [FR.on (c.length + 1)]).set (c.length + 1) (FR.round (c1.length + 1))
  | .read r k, c => c ++ [.row (.read r k)]
  | .set k e, c => c ++ [.row (.set k e)]
  | .swap r k e f, c => c ++ [.row (.swap r k e f)]
  | .keep r e, c => c ++ [.row (.keep r e)]
  | .coin r, c => c ++ [.row (.coin r)]
  | .ans e, c => c ++ [.row (.ans e)]
def putRows : List Row → List FR → List FR
  | [], c => c
  | r :: rs, c => putRows rs (putRow r c)
end
def codeOf (rows : List Row) : List FR := putRows rows [] ++ [.row (.ans (.num 0))]
structure Vlt where
  cells : List (Int × Int)
  deeds : List (Str × Int × List Row)
def cellD (c : Int × Int) : PyData := .tuple [.int c.1, .int c.2]
def deedD (d : Str × Int × List Row) : PyData := .tuple [.str d.1, .int d.2.1, .tuple (rowsD d.2.2)]
def Vlt.calls (v : Vlt) : List (Str × Int) := v.deeds.flatMap fun d => (List.range d.2.1.toNat).map fun (j : Nat) => (d.1, (j : Int))
def codeD (rows : List Row) : PyData := .tuple ((codeOf rows).map FR.d)
/-- what the attributes of a vault hold -/
def vflds (a d c : Addr) (b : Bool) : List (Str × V) := putF "_coins" (.bl b) (putF "_codes" (.ref c) (putF "_deeds" (.ref d) (putF "_cells" (.ref a) [])))
theorem v1 : ¬ (("_cells" : Str) = "_deeds") := by decide +kernel
theorem v2 : ¬ (("_cells" : Str) = "_codes") := by decide +kernel
theorem v3 : ¬ (("_cells" : Str) = "_coins") := by decide +kernel
theorem v4 : ¬ (("_deeds" : Str) = "_codes") := by decide +kernel
theorem v5 : ¬ (("_deeds" : Str) = "_coins") := by decide +kernel
theorem v6 : ¬ (("_codes" : Str) = "_coins") := by decide +kernel
theorem vf_cells (a d c : Addr) (b : Bool) : (vflds a d c b).lookup ("_cells" : Str) = some (.ref a) := by
  unfold vflds
  rw [lookup_putF, if_neg v3, lookup_putF, if_neg v2, lookup_putF, if_neg v1, lookup_putF, if_pos rfl]
theorem vf_deeds (a d c : Addr) (b : Bool) : (vflds a d c b).lookup ("_deeds" : Str) = some (.ref d) := by
  unfold vflds
  rw [lookup_putF, if_neg v5, lookup_putF, if_neg v4, lookup_putF, if_pos rfl]
theorem vf_codes (a d c : Addr) (b : Bool) : (vflds a d c b).lookup ("_codes" : Str) = some (.ref c) := by
  unfold vflds
  rw [lookup_putF, if_neg v6, lookup_putF, if_pos rfl]
theorem vf_coins (a d c : Addr) (b : Bool) : (vflds a d c b).lookup ("_coins" : Str) = some (.bl b) := by
  unfold vflds
  rw [lookup_putF, if_pos rfl]
theorem vf_no (a d c : Addr) (b : Bool) {m : Str} (h1 : ¬ m = "_cells") (h2 : ¬ m = "_deeds") (h3 : ¬ m = "_codes") (h4 : ¬ m = "_coins") : (vflds a d c b).lookup m = none := by
  unfold vflds
  rw [lookup_putF, if_neg h4, lookup_putF, if_neg h3, lookup_putF, if_neg h2, lookup_putF, if_neg h1]
  rfl
/-- the codes by the names of the deeds -/
def CodesR (K : PySem.W.Frag) (H : Hp) : List (Key × V) → List (Str × Int × List Row) → Prop
  | [], [] => True
  | (k, v) :: r, d :: ds => k = Sum.inr d.1 ∧ Dp K H v (codeD d.2.2) ∧ CodesR K H r ds
  | _, _ => False
/-- a vault stands at p -/
structure VaultAt (K : PySem.W.Frag) (H : Hp) (p : Addr) (v : Vlt) : Prop where
  ob : ∃ (dx a d c : Addr) (b : Bool) (kvs : List (Key × V)), H p = some (.ins (He.ga K "Vault") dx (vflds a d c b)) ∧ Dp K H (.ref a) (.tuple (v.cells.map cellD)) ∧ Dp K H (.ref d) (.tuple (v.deeds.map deedD)) ∧ H c = some (.dK kvs) ∧ CodesR K H kvs v.deeds
/-- the bounds of a vault -/
structure VOk (v : Vlt) : Prop where
  c1 : v.cells.length ≤ 6
  d1 : v.deeds.length ≤ 8
  ch : ∀ d ∈ v.deeds, 1 ≤ d.2.1 ∧ d.2.1 ≤ 9
  nd : (v.deeds.map (·.1)).Nodup
theorem codes_same {K : PySem.W.Frag} {H H' : Hp} (e : Same H H') : ∀ {kvs : List (Key × V)} {ds : List (Str × Int × List Row)}, CodesR K H kvs ds → CodesR K H' kvs ds
  | [], [], _ => trivial
  | (_, _) :: _, _ :: _, h => ⟨h.1, dp_same e h.2.1, codes_same e h.2.2⟩
  | [], _ :: _, h => h.elim
  | _ :: _, [], h => h.elim
theorem VaultAt.same {K : PySem.W.Frag} {H H' : Hp} {p : Addr} {v : Vlt} (e : Same H H') (h : VaultAt K H p v) : VaultAt K H' p v := by
  obtain ⟨dx, a, d, c, b, kvs, h1, h2, h3, h4, h5⟩ := h.ob
  exact ⟨dx, a, d, c, b, kvs, e _ _ h1, dp_same e h2, dp_same e h3, e _ _ h4, codes_same e h5⟩
/-! ### data taken apart -/
section
variable {K : PySem.W.Frag} {H : Hp}
theorem dp_tup {v : V} {ds : List PyData} (h : Dp K H v (.tuple ds)) : ∃ (a : Addr) (xs : List V), v = .ref a ∧ SqT K H a xs ∧ DpAll K H xs ds := by
  cases h with
  | tup h r => exact ⟨_, _, rfl, h, r⟩
theorem dp_lst {v : V} {ds : List PyData} (h : Dp K H v (.list ds)) : ∃ (a : Addr) (xs : List V), v = .ref a ∧ SqL K H a xs ∧ DpAll K H xs ds := by
  cases h with
  | lst h r => exact ⟨_, _, rfl, h, r⟩
theorem dp_int {v : V} {i : Int} (h : Dp K H v (.int i)) : v = .int i := by
  cases h
  rfl
theorem dp_str {v : V} {i : Str} (h : Dp K H v (.str i)) : v = .str i := by
  cases h
  rfl
theorem dps_len : ∀ {vs : List V} {ds : List PyData}, DpAll K H vs ds → vs.length = ds.length
  | _, _, .nil => rfl
  | _, _, .cons _ r => congrArg (· + 1) (dps_len r)
theorem dps_get : ∀ {vs : List V} {ds : List PyData} {i : Nat} {v : V}, DpAll K H vs ds → vs[i]? = some v → ∃ d, ds[i]? = some d ∧ Dp K H v d
  | _, _, i, v, .nil, h => by simp at h
  | _, _, 0, v, .cons h r, e => by
    cases (Option.some.inj e)
    exact ⟨_, rfl, h⟩
  | _, _, i + 1, v, .cons h r, e => dps_get (i := i) r e
theorem dps_at : ∀ {vs : List V} {ds : List PyData} {i : Nat} {d : PyData}, DpAll K H vs ds → ds[i]? = some d → ∃ v, vs[i]? = some v ∧ Dp K H v d
  | _, _, i, v, .nil, h => by simp at h
  | _, _, 0, v, .cons h r, e => by
    cases (Option.some.inj e)
    exact ⟨_, rfl, h⟩
  | _, _, i + 1, v, .cons h r, e => dps_at (i := i) r e
theorem dps_app : ∀ {vs ws : List V} {ds es : List PyData}, DpAll K H vs ds → DpAll K H ws es → DpAll K H (vs ++ ws) (ds ++ es)
  | _, _, _, _, .nil, r => r
  | _, _, _, _, .cons h t, r => .cons h (dps_app t r)
theorem dps_set : ∀ {vs : List V} {ds : List PyData} {i : Nat} {v : V} {d : PyData}, DpAll K H vs ds → Dp K H v d → DpAll K H (vs.set i v) (ds.set i d)
  | _, _, _, _, _, .nil, _ => .nil
  | _, _, 0, _, _, .cons _ r, z => .cons z r
  | _, _, i + 1, _, _, .cons h r, z => .cons h (dps_set (i := i) r z)
theorem dp2 {v : V} {d e : PyData} (h : Dp K H v (.tuple [d, e])) : ∃ (a : Addr) (x y : V), v = .ref a ∧ SqT K H a [x, y] ∧ Dp K H x d ∧ Dp K H y e := by
  obtain ⟨a, xs, rfl, h, r⟩ := dp_tup h
  cases r with | cons h1 r => cases r with | cons h2 r => cases r with | nil => exact ⟨a, _, _, rfl, h, h1, h2⟩
theorem dp3 {v : V} {d e f : PyData} (h : Dp K H v (.tuple [d, e, f])) : ∃ (a : Addr) (x y z : V), v = .ref a ∧ SqT K H a [x, y, z] ∧ Dp K H x d ∧ Dp K H y e ∧ Dp K H z f := by
  obtain ⟨a, xs, rfl, h, r⟩ := dp_tup h
  cases r with | cons h1 r => cases r with | cons h2 r => cases r with | cons h3 r => cases r with | nil => exact ⟨a, _, _, _, rfl, h, h1, h2, h3⟩
theorem dps_ints : ∀ {vs : List V} {is : List Int}, DpAll K H vs (is.map PyData.int) → vs = is.map V.int
  | _, [], .nil => rfl
  | _, i :: is, .cons h r => by
    rw [dp_int h, dps_ints r]
    rfl
theorem ints_dps : ∀ {is : List Int}, DpAll K H (is.map V.int) (is.map PyData.int)
  | [] => .nil
  | i :: is => .cons (.int i) ints_dps
end
/-! ### what a list that grows leaves as it was -/
/-- all but what stands at D is as it was -/
def But (D : Addr) (H H' : Hp) : Prop := ∀ b o, b ≠ D → H b = some o → H' b = some o
theorem But.upd {D : Addr} {H : Hp} {o : HO} : But D H (upd H D o) := fun b u hb e => by
  rw [upd_ne hb]
  exact e
theorem same_but {D : Addr} {H H' : Hp} (s : Same H H') : But D H H' := fun b o _ e => s b o e
theorem But.trans {D : Addr} {H H1 H2 : Hp} (s : But D H H1) (t : But D H1 H2) : But D H H2 := fun b o hb e => t b o hb (s b o hb e)
/-- no list within -/
inductive NoL : PyData → Prop where
  | non : NoL .none
  | bool (b : Bool) : NoL (.bool b)
  | int (i : Int) : NoL (.int i)
  | str (x : Str) : NoL (.str x)
  | tup {ds : List PyData} (h : ∀ d ∈ ds, NoL d) : NoL (.tuple ds)
/-- what stands at D may change -/
def Ch (H : Hp) (D : Addr) : Prop := (∀ xs, H D ≠ some (.tup xs)) ∧ ∀ o u, H D ≠ some (.frz o u)
theorem Ch.lst {H : Hp} {D : Addr} {l : List V} (h : H D = some (.lst l)) : Ch H D := ⟨fun _ e => (by rw [h] at e; cases e), fun _ _ e => (by rw [h] at e; cases e)⟩
theorem Ch.dK {H : Hp} {D : Addr} {l : List (Key × V)} (h : H D = some (.dK l)) : Ch H D := ⟨fun _ e => (by rw [h] at e; cases e), fun _ _ e => (by rw [h] at e; cases e)⟩
theorem Ch.ins {H : Hp} {D C dx : Addr} {l : List (Str × V)} (h : H D = some (.ins C dx l)) : Ch H D := ⟨fun _ e => (by rw [h] at e; cases e), fun _ _ e => (by rw [h] at e; cases e)⟩
theorem Ch.new {H : Hp} {D : Addr} (h : H D = none) : Ch H D := ⟨fun _ e => (by rw [h] at e; cases e), fun _ _ e => (by rw [h] at e; cases e)⟩
section
variable {K : PySem.W.Frag} {H H' : Hp} {D : Addr}
theorem sqT_but (hD : Ch H D) (s : But D H H') {a : Addr} {xs : List V} (h : SqT K H a xs) : SqT K H' a xs := by
  rcases h with (h | ⟨o, h⟩) | h
  · exact .inl (.inl (s _ _ (fun e => hD.1 _ (e ▸ h)) h))
  · exact .inl (.inr ⟨o, s _ _ (fun e => hD.2 _ _ (e ▸ h)) h⟩)
  · exact .inr h
mutual
theorem dp_but (hD : Ch H D) (s : But D H H') : ∀ {v : V} {d : PyData}, Dp K H v d → NoL d → Dp K H' v d
  | _, _, .non, _ => .non
  | _, _, .bl b, _ => .bl b
  | _, _, .int i, _ => .int i
  | _, _, .str x, _ => .str x
  | _, _, .lst _ _, n => nomatch n
  | _, _, .tup h r, n => .tup (sqT_but hD s h) (dps_but hD s r (by cases n with | tup h => exact h))
theorem dps_but (hD : Ch H D) (s : But D H H') : ∀ {vs : List V} {ds : List PyData}, DpAll K H vs ds → (∀ d ∈ ds, NoL d) → DpAll K H' vs ds
  | _, _, .nil, _ => .nil
  | _, _, .cons h r, n => .cons (dp_but hD s h (n _ List.mem_cons_self)) (dps_but hD s r fun d hd => n d (List.mem_cons_of_mem _ hd))
end
end
/-! ### comprehensions and loops that leave all that was as it was -/
section
variable {J : It} {n : Nat} {G : Hp → Prop} {Y : Nat → Hp → V → Hp → Prop}
/-- a list comprehension: its i-th item is R i -/
theorem lc_out (w : Walk J n G Y) {g : TG} {te : TE} {vs : List Nat} {σ : L2.St} {H1 : Hp} {D : Addr} {Qd : Hp → Prop} (hD : H1 D = none) (hn : n ≤ 100000) (R : Nat → V → Hp → Prop) (hR : ∀ i y H H', Ch H D → But D H H' → R i y H → R i y H')
    (hG : ∀ H, Same H1 H → G H)
    (hs : ∀ (i : Nat) (x : V) (H H' : Hp) (N : VK) (F : Hp → Prop), i < n → Same H1 H → Y i H x H' → (∀ y H4, Same H H4 → R i y H4 → N y H4) → g x (wipe σ vs) H' fun σ2 H2 => wipe σ2 vs = wipe σ vs ∧ if true = true then te σ2 H2 N else F H2)
    (hd : ∀ H ys, Same H1 H → H D = some (.lst ys) → ys.length = n → (∀ i y, ys[i]? = some y → R i y H) → Qd H) :
    ∃ W : Nat → Nat → Hp → Prop, (∃ m, W 0 m (upd H1 D (.lst []))) ∧ ∀ i m H, W i m H →
      (J.stop i H ∧ Qd H) ∨ (J.go i H ∧ ∃ Nx : Hp → Prop, (∀ H', Nx H' → ∃ m', m' < m ∧ W (i + 1) m' H') ∧ ∀ x H', J.yld i H x H' → g x (wipe σ vs) H' fun σ2 H2 => wipe σ2 vs = wipe σ vs ∧ tYes σ2 H2 fun b H3 =>
        if b = true then te σ2 H3 fun y H4 => ∃ acc, H4 D = some (.lst acc) ∧ acc.length < sizeLine ∧ Nx (upd H4 D (.lst (acc ++ [y]))) else Nx H3) := by
  let Pv : Nat → Hp → Prop := fun i H => ∃ ys, Same H1 H ∧ H D = some (.lst ys) ∧ ys.length = i ∧ ∀ j y, ys[j]? = some y → R j y H
  refine lc_it w Pv ⟨[], same_new hD, upd_same, rfl, fun j y e => by simp at e⟩ (fun i H _ ⟨_, s, _⟩ => hG H s) (fun i x H H' hi ⟨ys, s, eD, el, hr⟩ y => ?_) (fun H ⟨ys, s, eD, el, hr⟩ => hd H ys s eD el hr)
  refine hs i x H H' (fun y H4 => ∃ acc, H4 D = some (.lst acc) ∧ acc.length < sizeLine ∧ Pv (i + 1) (upd H4 D (.lst (acc ++ [y])))) (fun H3 => Pv (i + 1) H3) hi s y fun z H4 s4 rz => ⟨ys, s4 _ _ eD, by rw [sizeLine_eq]; omega, ys ++ [z], fun b o e => ?_, upd_same, by simp [el], fun j u e => ?_⟩
  · rw [upd_ne (ne_of_none e hD)]
    exact s4 b o (s b o e)
  · have bt : But D H (upd H4 D (.lst (ys ++ [z]))) := (same_but s4 (D := D)).trans But.upd
    by_cases hj : j < ys.length
    · rw [List.getElem?_append_left hj] at e
      exact hR j u H _ (.lst eD) bt (hr j u e)
    · rw [List.getElem?_append_right (by omega)] at e
      have e0 : j - ys.length = 0 := by
        cases q : j - ys.length with
        | zero => rfl
        | succ m => rw [q] at e; simp at e
      rw [e0] at e
      cases (Option.some.inj e)
      have ej : j = i := by omega
      subst ej
      exact hR _ _ H4 _ (.lst (s4 _ _ eD)) But.upd rz
end

end M

set_option Elab.async false
set_option linter.all false
set_option maxRecDepth 100000
set_option maxHeartbeats 2000000
namespace M
open PySem PySem.Spec PyProof.Rows L2

theorem map_of {α : Type} {cs : List α} {f : α → V} {ys : List V} (hl : ys.length = cs.length) (h : ∀ (i : Nat) (y : V), ys[i]? = some y → ∃ c, cs[i]? = some c ∧ y = f c) : ys = cs.map f := by
  refine List.ext_getElem? fun i => ?_
  rw [List.getElem?_map]
  cases e : ys[i]? with
  | some y =>
    obtain ⟨c, hc, rfl⟩ := h i y e
    rw [hc]
    rfl
  | none =>
    have q : cs[i]? = none := by
      rw [List.getElem?_eq_none_iff] at e ⊢
      omega
    rw [q]
    rfl
theorem get_mapA {α β : Type} {l : List α} {f : α → β} {i : Nat} {x : β} (h : (l.map f)[i]? = some x) : ∃ z, l[i]? = some z ∧ x = f z := by
  rw [List.getElem?_map] at h
  cases e : l[i]? with
  | none => rw [e] at h; cases h
  | some z => rw [e] at h; exact ⟨z, rfl, (Option.some.inj h).symm⟩
section
variable {P : Program} {w : World} {K : PySem.W.Frag} {mg : Str → Option Value} {base : Heap}
/-! ### pastless.vaults: what a vault tells -/
def spSizes (K : PySem.W.Frag) (f : Int × Int → Int) : Sp := fun vs H Q _ => ∃ (p : Addr) (v : Vlt), vs = [.ref p] ∧ VaultAt K H p v ∧ v.cells.length ≤ 6 ∧ ∀ a H', Same H H' → H' a = some (.tup ((v.cells.map f).map V.int)) → Q (.ref a) H'
end

end M

set_option Elab.async false
set_option linter.all false
set_option maxRecDepth 100000
set_option maxHeartbeats 2000000
namespace M
open PySem PySem.Spec PyProof.Rows L2

/-! ### any walk: Pv by the turn and the heap -/
section
variable {J : It} {n : Nat} {G : Hp → Prop} {Y : Nat → Hp → V → Hp → Prop}
theorem it_any (w : Walk J n G Y) {B : (Hp → Prop) → V → Hp → Prop} {H1 : Hp} {Qd : Hp → Prop} (Pv : Nat → Hp → Prop) (h0 : Pv 0 H1) (hG : ∀ i H, i ≤ n → Pv i H → G H) (hs : ∀ i x H H', i < n → Pv i H → Y i H x H' → B (Pv (i + 1)) x H')
    (hd : ∀ H, Pv n H → Qd H) : ∃ W : Nat → Nat → Hp → Prop, (∃ m, W 0 m H1) ∧ ∀ i m H, W i m H → (J.stop i H ∧ Qd H) ∨ (J.go i H ∧ ∃ Nx : Hp → Prop, (∀ H', Nx H' → ∃ m', m' < m ∧ W (i + 1) m' H') ∧ ∀ x H', J.yld i H x H' → B Nx x H') := by
  refine ⟨fun i m H => m + i = n ∧ Pv i H, ⟨n, rfl, h0⟩, fun i m H ⟨hm, hp⟩ => ?_⟩
  have hg := hG i H (by omega) hp
  rcases Nat.lt_or_ge i n with hi | hi
  · exact .inr ⟨w.goes i H hi hg, Pv (i + 1), fun H' hp' => ⟨m - 1, by omega, by omega, hp'⟩, fun x H' y => hs i x H H' hi hp (w.yields i H x H' hi hg y)⟩
  · obtain rfl : i = n := by omega
    exact .inl ⟨w.stops H hg, hd H hp⟩
end
/-- the tuples of calls -/
def TupsAt (H : Hp) : List V → List (Str × Int) → Prop
  | [], [] => True
  | y :: ys, c :: cs => (∃ t, y = .ref t ∧ H t = some (.tup [.str c.1, .int c.2])) ∧ TupsAt H ys cs
  | _, _ => False
theorem tups_but {D : Addr} {H H' : Hp} (hD : Ch H D) (s : But D H H') : ∀ {ys : List V} {cs : List (Str × Int)}, TupsAt H ys cs → TupsAt H' ys cs
  | [], [], _ => trivial
  | _ :: _, _ :: _, ⟨⟨t, e, h⟩, r⟩ => ⟨⟨t, e, s t _ (fun z => hD.1 _ (z ▸ h)) h⟩, tups_but hD s r⟩
  | [], _ :: _, h => h.elim
  | _ :: _, [], h => h.elim
theorem tups_same {H H' : Hp} (s : Same H H') : ∀ {ys : List V} {cs : List (Str × Int)}, TupsAt H ys cs → TupsAt H' ys cs
  | [], [], _ => trivial
  | _ :: _, _ :: _, ⟨⟨t, e, h⟩, r⟩ => ⟨⟨t, e, s t _ h⟩, tups_same s r⟩
  | [], _ :: _, h => h.elim
  | _ :: _, [], h => h.elim
theorem tups_len {H : Hp} : ∀ {ys : List V} {cs : List (Str × Int)}, TupsAt H ys cs → ys.length = cs.length
  | [], [], _ => rfl
  | _ :: _, _ :: _, ⟨_, r⟩ => congrArg (· + 1) (tups_len r)
  | [], _ :: _, h => h.elim
  | _ :: _, [], h => h.elim
theorem tups_snoc {H : Hp} {t : Addr} {c : Str × Int} (ht : H t = some (.tup [.str c.1, .int c.2])) : ∀ {ys : List V} {cs : List (Str × Int)}, TupsAt H ys cs → TupsAt H (ys ++ [.ref t]) (cs ++ [c])
  | [], [], _ => ⟨⟨t, rfl, ht⟩, trivial⟩
  | _ :: _, _ :: _, ⟨h, r⟩ => ⟨h, tups_snoc ht r⟩
  | [], _ :: _, h => h.elim
  | _ :: _, [], h => h.elim
theorem tups_get {H : Hp} : ∀ {ys : List V} {cs : List (Str × Int)} {i : Nat} {y : V}, TupsAt H ys cs → ys[i]? = some y → ∃ c t, cs[i]? = some c ∧ y = .ref t ∧ H t = some (.tup [.str c.1, .int c.2])
  | [], [], i, y, _, e => by simp at e
  | _ :: _, c :: _, 0, y, ⟨⟨t, e, h⟩, r⟩, z => by
    cases (Option.some.inj z)
    exact ⟨c, t, rfl, e, h⟩
  | _ :: _, _ :: _, i + 1, y, ⟨h, r⟩, z => tups_get (i := i) r z
  | [], _ :: _, _, _, h, _ => h.elim
  | _ :: _, [], _, _, h, _ => h.elim
theorem take_more {α : Type} {l : List α} {i : Nat} {x : α} (h : l[i]? = some x) : l.take (i + 1) = l.take i ++ [x] := by
  rw [List.take_add_one, h]
  rfl
theorem range_more (j : Nat) : List.range (j + 1) = List.range j ++ [j] := List.range_succ
/-- all but the dict of a name -/
theorem codes_get {K : PySem.W.Frag} {H : Hp} : ∀ {kvs : List (Key × V)} {ds : List (Str × Int × List Row)} {d : Str × Int × List Row}, CodesR K H kvs ds → (ds.map (·.1)).Nodup → d ∈ ds → ∃ v, valV kvs (Sum.inr d.1 : Key) = some v ∧ Dp K H v (codeD d.2.2)
  | [], [], d, _, _, h => by cases h
  | (k, v) :: r, e :: ds, d, h, n, hd => by
    obtain ⟨rfl, hv, hr⟩ := h
    rw [List.map_cons, List.nodup_cons] at n
    by_cases q : e.1 = d.1
    · have : d = e := by
        rcases List.mem_cons.mp hd with z | z
        · exact z
        · exact absurd (q ▸ List.mem_map.mpr ⟨d, z, rfl⟩) n.1
      subst this
      refine ⟨v, ?_, hv⟩
      unfold valV
      rw [List.find?_cons_of_pos (by simp)]
      rfl
    · have hd' : d ∈ ds := by
        rcases List.mem_cons.mp hd with z | z
        · exact absurd (by rw [z]) q
        · exact z
      obtain ⟨u, hu, hw⟩ := codes_get hr n.2 hd'
      refine ⟨u, ?_, hw⟩
      unfold valV at hu ⊢
      rw [List.find?_cons_of_neg (by simp [q])]
      exact hu
  | [], _ :: _, _, h, _, _ => h.elim
  | _ :: _, [], _, h, _, _ => h.elim
/-! ### no lists within -/
theorem Exp.noL : ∀ e : Exp, NoL e.d
  | .num n => .int n
  | .reg r => .str r
  | .op s a b => .tup fun d h => by
    rcases List.mem_cons.mp h with rfl | h
    · exact .str s
    rcases List.mem_cons.mp h with rfl | h
    · exact a.noL
    rcases List.mem_cons.mp h with rfl | h
    · exact b.noL
    cases h
mutual
theorem Row.noL : ∀ r : Row, NoL r.d
  | .read r c => .tup (by intro d h; simp at h; rcases h with rfl | rfl | rfl <;> constructor)
  | .set c e => .tup (by intro d h; simp at h; rcases h with rfl | rfl | rfl <;> first | exact e.noL | constructor)
  | .swap r c e f => .tup (by intro d h; simp at h; rcases h with rfl | rfl | rfl | rfl | rfl <;> first | exact e.noL | exact f.noL | constructor)
  | .keep r e => .tup (by intro d h; simp at h; rcases h with rfl | rfl | rfl <;> first | exact e.noL | constructor)
  | .coin r => .tup (by intro d h; simp at h; rcases h with rfl | rfl <;> constructor)
  | .iff e a b => .tup (by intro d h; simp at h; rcases h with rfl | rfl | rfl | rfl <;> first | exact e.noL | exact .tup (rows_noL a) | exact .tup (rows_noL b) | constructor)
  | .times e a => .tup (by intro d h; simp at h; rcases h with rfl | rfl | rfl <;> first | exact e.noL | exact .tup (rows_noL a) | constructor)
  | .ans e => .tup (by intro d h; simp at h; rcases h with rfl | rfl <;> first | exact e.noL | constructor)
theorem rows_noL : ∀ rs : List Row, ∀ d ∈ rowsD rs, NoL d
  | [], d, h => by cases h
  | r :: rs, d, h => by
    rcases List.mem_cons.mp h with rfl | h
    · exact r.noL
    · exact rows_noL rs d h
end
theorem FR.noL : ∀ r : FR, NoL r.d
  | .row r => r.noL
  | .unless e p => .tup (by intro d h; simp at h; rcases h with rfl | rfl | rfl <;> first | exact e.noL | constructor)
  | .on p => .tup (by intro d h; simp at h; rcases h with rfl | rfl <;> constructor)
  | .rounds e => .tup (by intro d h; simp at h; rcases h with rfl | rfl <;> first | exact e.noL | constructor)
  | .round p => .tup (by intro d h; simp at h; rcases h with rfl | rfl <;> constructor)
  | .hole => .tup (by intro d h; cases h)
theorem code_noL (rs : List Row) : NoL (codeD rs) := .tup fun d h => by
  obtain ⟨r, _, rfl⟩ := List.mem_map.mp h
  exact r.noL
section
variable {P : Program} {w : World} {K : PySem.W.Frag} {mg : Str → Option Value} {base : Heap}
def spCalls (K : PySem.W.Frag) : Sp := fun vs H Q _ => ∃ (p : Addr) (v : Vlt), vs = [.ref p] ∧ VaultAt K H p v ∧ VOk v ∧ ∀ a ys H', Same H H' → H' a = some (.lst ys) → TupsAt H' ys v.calls → Q (.ref a) H'
end

end M

set_option Elab.async false
set_option linter.all false
set_option maxRecDepth 100000
set_option maxHeartbeats 2000000
namespace M
open PySem PySem.Spec PyProof.Rows L2

/-- the def x of the module, its parameters told -/
structure Cf (P : Program) (w : World) (K : PySem.W.Frag) (mg : Str → Option Value) (base : Heap) (k : Nat) (x : Str) (ps : List Str) (sp : Sp) : Prop where
  ex : ∃ (fd : FuncData) (oc : Value) (od : Option Addr) (osl : Array (Option Value)), K.lookup (He.ga K x) = some ⟨oc, od, .func fd, osl⟩ ∧ FnOk P w K mg base CX0 k (He.ga K x) fd ps sp ∧ PySem.W.keepIn K (.ref (He.ga K x)) = true ∧ Binds K fd ps []
  g : mg x = some (.ref (He.ga K x))
theorem cf_of {P : Program} {w : World} {K : PySem.W.Frag} {mg : Str → Option Value} {base : Heap} {x : Str} {st : Stmt} {N ps : List Str} {k : Nat} {sp : Sp} (F : ∃ fd, FunD K x x (defArgs st) (defBody st) (defScope st) [] [] (He.fAd K (x, none)) fd) (g : mg x = some (.ref (He.ga K x))) (S : FnScope N ps (defScope st)) (hb : BindsH x x st ps)
    (len : ∀ vs H Q E, sp vs H Q E → vs.length = ps.length) (hbody : BodyH P w K mg base x st N k (He.fAd K (x, none)) sp) : Cf P w K mg base (k + 1) x ps sp := by
  obtain ⟨fd, F⟩ := F
  obtain ⟨oc, od, dV, kV, doc, pm, an, cdv, ct, osl, e, lk, _⟩ := F.ex
  exact ⟨⟨fd, oc, od, osl, lk, fn_d F S len hbody, F.kp, F.bindsN hb⟩, g⟩
theorem Cf.mono {P : Program} {w : World} {K : PySem.W.Frag} {mg : Str → Option Value} {base : Heap} {x : Str} {ps : List Str} {j k : Nat} {sp : Sp} (c : Cf P w K mg base j x ps sp) (h : j ≤ k) : Cf P w K mg base k x ps sp := by
  obtain ⟨fd, oc, od, osl, lk, F, r⟩ := c.ex
  exact ⟨⟨fd, oc, od, osl, lk, F.mono h, r⟩, c.g⟩
theorem ne_ho {H : Hp} {a b : Addr} {o p : HO} (ha : H a = some o) (hb : H b = some p) (n : o ≠ p) : a ≠ b := fun e => n (by rw [e, hb] at ha; exact (Option.some.inj ha).symm)
theorem at0 {a : V} {xs : List V} : atI (a :: xs) 0 = some a := atI_nat (xs := a :: xs) (j := 0) rfl
theorem at1 {a b : V} {xs : List V} : atI (a :: b :: xs) 1 = some b := atI_nat (xs := a :: b :: xs) (j := 1) rfl
theorem at2 {a b c : V} {xs : List V} : atI (a :: b :: c :: xs) 2 = some c := atI_nat (xs := a :: b :: c :: xs) (j := 2) rfl
theorem at3 {a b c d : V} {xs : List V} : atI (a :: b :: c :: d :: xs) 3 = some d := atI_nat (xs := a :: b :: c :: d :: xs) (j := 3) rfl
def NameOk (s : Str) : Prop := 1 ≤ s.length ∧ s.length ≤ 8 ∧ ∀ c ∈ s.cps.toList, 97 ≤ c ∧ c ≤ 122
theorem sign_le {a c : Nat} (h : a ≤ c) : (!decide (([c] : List Nat) < [a])) = true := by
  have : ¬ (([c] : List Nat) < [a]) := by
    rw [List.cons_lt_cons_iff]
    rintro (h1 | ⟨_, h2⟩)
    · omega
    · exact absurd h2 (by simp)
  rw [decide_eq_false this]
  rfl
theorem if_true_of {c : Bool} {A B : Prop} (hc : c = true) (h : A) : if c = true then A else B := by
  rw [if_pos hc]
  exact h
theorem if_not_of {c : Bool} {A B : Prop} (hc : c = true) (h : B) : if (!c) = true then A else B := by
  rw [hc]
  exact iteF h
theorem getD_mem {l : List Int} {i : Nat} {d : Int} (h : i < l.length) : l.getD i d ∈ l := by
  rw [List.getD_eq_getElem?_getD, List.getElem?_eq_getElem h]
  exact List.getElem_mem h
theorem atK {l : List Int} {k : Int} {n : Nat} (h0 : 0 ≤ k) (hk : k < n) (hn : l.length = n) : atI (l.map V.int) k = some (.int (l.getD k.toNat 0)) := by
  have e : ((k.toNat : Nat) : Int) = k := Int.toNat_of_nonneg h0
  have hl : k.toNat < l.length := by omega
  have := atI_nat (xs := l.map V.int) (j := k.toNat) (v := .int (l.getD k.toNat 0)) (by
    rw [List.getElem?_map, List.getD_eq_getElem?_getD, List.getElem?_eq_getElem hl]
    rfl)
  rw [e] at this
  exact this
theorem none_of {H H' : Hp} {x : Addr} (s : Same H H') (h : H' x = none) : H x = none := by
  cases e : H x with
  | none => rfl
  | some o => rw [s _ _ e] at h; cases h
theorem let26 {i : Int} (h : 0 ≤ i ∧ i < 26) : atI ("abcdefghijklmnopqrstuvwxyz" : Str).cps.toList i = some (97 + i.toNat) := by
  obtain ⟨k, rfl⟩ : ∃ k : _root_.Fin 26, i = ((k.val : Nat) : Int) := ⟨⟨i.toNat, by omega⟩, by show i = ((i.toNat : Nat) : Int); omega⟩
  revert k
  decide +kernel
theorem joinL_nil : ∀ ps : List (List Nat), TL.joinL [] ps = ps.flatten
  | [] => rfl
  | [p] => by show p = p ++ []; rw [List.append_nil]
  | p :: q :: r => by
    show p ++ ([] ++ TL.joinL [] (q :: r)) = p ++ (q :: r).flatten
    rw [List.nil_append, joinL_nil (q :: r)]
theorem join_letters {ss : List Str} (h : ∀ s ∈ ss, ∃ c, s = ⟨#[c]⟩ ∧ 97 ≤ c ∧ c ≤ 122) : (Txt.join ("" : Str) ss).cps.toList.length = ss.length ∧ ∀ c ∈ (Txt.join ("" : Str) ss).cps.toList, 97 ≤ c ∧ c ≤ 122 := by
  have e : (Txt.join ("" : Str) ss).cps.toList = (ss.map TL.tl).flatten := by
    have := TL.tl_join ("" : Str) ss
    rw [← TL.join_eq] at this
    rw [← joinL_nil]
    exact this
  rw [e]
  clear e
  induction ss with
  | nil => exact ⟨rfl, fun c hc => by cases hc⟩
  | cons s r ih =>
    obtain ⟨c, rfl, h1, h2⟩ := h s List.mem_cons_self
    obtain ⟨i1, i2⟩ := ih fun x hx => h x (List.mem_cons_of_mem _ hx)
    have et : TL.tl (⟨#[c]⟩ : Str) = [c] := rfl
    rw [List.map_cons, List.flatten_cons, et]
    refine ⟨by rw [List.length_append, i1]; simp; omega, fun d hd => ?_⟩
    rcases List.mem_append.mp hd with hd | hd
    · rw [List.mem_singleton.mp hd]
      exact ⟨h1, h2⟩
    · exact i2 d hd
theorem str_len (s : Str) : s.length = s.cps.toList.length := by rw [Array.length_toList]; rfl
theorem boot_all : bootBuiltins "all" = some (.builtin "all") := by decide +kernel
section
variable {P : Program} {w : World} {K : PySem.W.Frag} {mg : Str → Option Value} {base : Heap}
def spName : Sp := fun vs H Q _ => ∃ (s : Str), vs = [.str s] ∧ NameOk s ∧ Q (.bl true) H
end

end M

set_option Elab.async false
set_option linter.all false
set_option maxRecDepth 100000
set_option maxHeartbeats 2000000
namespace M
open PySem PySem.Spec PyProof.Rows L2

/-! ### what the law draws -/
def PoolAt (H : Hp) (a : Addr) : Prop := ∃ g s n : Int, H a = some (.lst [.int g, .int s, .int n]) ∧ 0 ≤ g ∧ (0 ≤ s ∧ s < 1099511627776) ∧ 0 ≤ n
section
variable {P : Program} {w : World} {K : PySem.W.Frag} {mg : Str → Option Value} {base : Heap}
def spPool (K : PySem.W.Frag) : Sp := fun vs H Q _ => ∃ (a : Addr) (ns : List Int) (k : Int), vs = [.ref a, .int k] ∧ SqL K H a (ns.map .int) ∧ ns.length ≤ 63 ∧ (0 ≤ k ∧ k ≤ 63) ∧ ∀ (p : Addr) (H' : Hp), Same H H' → H p = none → PoolAt H' p → Q (.ref p) H'
theorem ca_l_pool (T : Txt w K mg) : Ca P w K mg base 1 "_law_pool" (spPool K) := by
  refine ca_of (N := ["_law_script", "_law_k", "_law_cell", "_law_seed"]) (ps := ["_law_script", "_law_k"]) T.f_l_pool T.g_law_pool ⟨rfl, rfl, rfl, by decide +kernel, rfl, by decide +kernel, by decide +kernel⟩ (fun _ _ _ _ _ _ us hl => match us, hl with | [_, _], _ => rfl)
    (fun vs H Q E h => by obtain ⟨a, ns, k, rfl, ha, hl, hk, q⟩ := h; rfl) (fun cdv A outer s H vs Q E hr h => ?_)
  have nd : (["_law_script", "_law_k", "_law_cell", "_law_seed"] : List Str).Nodup := by decide +kernel
  obtain ⟨a, ns, k, rfl, ha, hl, hk, q⟩ := h
  refine ⟨_, (pss_cons (ps_if (pt_cmpR op_eq (pe_callB call_len_seq (by rfl) T.b_len PySem.boot_len (pa_cons (pv 0) pa_nil)) pe_int (nomark _)) (pss_one (ps_ret (pe_lst (pa_cons pe_int (pa_cons (pe_op op_add pe_int (pe_op op_mul pe_int (pv 1))) (pa_cons pe_int pa_nil)))))) pss_nil)
      (pss_cons (ps_set (i := 2) nd rfl (.inl rfl) (pe_callB call_abs (by rfl) T.b_abs boot_abs (pa_cons (pe_ix ix_list (pv 0) (pe_op op_mod (pv 1) (pe_callB call_len_seq (by rfl) T.b_len PySem.boot_len (pa_cons (pv 0) pa_nil))) (fun _ _ => rfl)) pa_nil)))
      (pss_cons (ps_set (i := 3) nd rfl (.inl rfl) (pe_op op_add (pe_op op_add (pe_op op_mod (pe_callTy call_int1 (by rfl) T.b_int boot_int (pa_cons (pv 2) pa_nil)) pe_int) (pe_op op_mul pe_int (pv 1))) (pe_callTy call_int1 (by rfl) T.b_int boot_int (pa_cons (pe_cmpR op_lt (pe_ix ix_list (pv 0) (pe_op op_mod (pv 1) (pe_callB call_len_seq (by rfl) T.b_len PySem.boot_len (pa_cons (pv 0) pa_nil))) (fun _ _ => rfl)) pe_int (nomark _)) pa_nil))))
      (pss_cons (ps_if (PW.pt (pw_and (pt_cmpR op_lt (pv 1) (pe_callB call_len_seq (by rfl) T.b_len PySem.boot_len (pa_cons (pv 0) pa_nil)) (nomark _)) (pw_and1 (pt_cmpR op_ge (pv 2) (pe_op op_pow pe_int pe_int) (nomark _))))) (pss_one (ps_ret (pe_lst (pa_cons (pv 2) (pa_cons (pv 3) (pa_cons pe_int pa_nil)))))) pss_nil)
      (pss_one (ps_ret (pe_lst (pa_cons pe_int (pa_cons (pv 3) (pa_cons pe_int pa_nil)))))))))), ?_⟩
  refine ⟨_, rfl, _, _, rfl, .inl ha, rfl, _, rfl, ?_⟩
  by_cases c : ns.length = 0
  · rw [decide_eq_true (show V.int ((ns.map V.int).length : Nat) = V.int 0 from by rw [List.length_map, c]; rfl)]
    refine iteT ⟨_, rfl, _, _, rfl, rfl, .inl (by decide), _, _, rfl, rfl, (by show 3 ≤ sizeLine; decide), fun p np => ?_⟩
    exact q p _ (same_new np) np ⟨_, _, _, upd_same, by decide, by omega, by decide⟩
  · rw [decide_eq_false (show ¬ V.int ((ns.map V.int).length : Nat) = V.int 0 from fun z => c (by have := V.int.inj z; rw [List.length_map] at this; omega))]
    refine iteF ?_
    have hm0 := Int.emod_nonneg k (show ((ns.map V.int).length : Int) ≠ 0 by rw [List.length_map]; omega)
    have hm1 := Int.emod_lt_of_pos k (show (0 : Int) < ((ns.map V.int).length : Nat) by rw [List.length_map]; omega)
    have hat := atK (l := ns) hm0 hm1 (by rw [List.length_map])
    generalize ns.getD (k % ((ns.map V.int).length : Nat)).toNat 0 = x at hat
    have pos : (fun (_ j : Int) => 0 < j) k ((ns.map V.int).length : Nat) := by show (0 : Int) < ((ns.map V.int).length : Nat); rw [List.length_map]; omega
    refine ⟨_, rfl, _, rfl, _, rfl, _, _, rfl, .inl ha, _, _, rfl, rfl, pos, _, _, _, _, rfl, rfl, ha, hat, _, rfl, ?_⟩
    have hx : 0 ≤ (if x < 0 then -x else x) := by split <;> omega
    generalize (if x < 0 then -x else x) = z at hx
    refine ⟨_, rfl, .inl ⟨_, rfl, _, _, rfl, rfl, (by show (0 : Int) < 2147483629; decide), _, rfl, _, _, rfl, rfl, .inl (by decide), _, _, rfl, rfl, ?_⟩⟩
    refine ⟨_, rfl, _, rfl, _, rfl, _, _, rfl, .inl ha, _, _, rfl, rfl, pos, _, _, _, _, rfl, rfl, ha, hat, _, _, rfl, rfl, .inr ⟨_, rfl, _, _, rfl, rfl, ?_⟩⟩
    have s0 : 0 ≤ (if decide (x < 0) = true then (1 : Int) else 0) ∧ (if decide (x < 0) = true then (1 : Int) else 0) ≤ 1 := by split <;> omega
    have z0 := Int.emod_nonneg z (show (2147483629 : Int) ≠ 0 by decide)
    have z1 := Int.emod_lt_of_pos z (show (0 : Int) < 2147483629 by decide)
    have sb : 0 ≤ z % 2147483629 + 1009 * k + (if decide (x < 0) = true then (1 : Int) else 0) ∧ z % 2147483629 + 1009 * k + (if decide (x < 0) = true then (1 : Int) else 0) < 1099511627776 := by omega
    refine ⟨_, rfl, _, rfl, _, _, rfl, .inl ha, _, _, rfl, rfl, _, rfl, ?_⟩
    have no : ∀ p, H p = none → Q (.ref p) (upd H p (.lst [.int 0, .int (z % 2147483629 + 1009 * k + (if decide (x < 0) = true then (1 : Int) else 0)), .int 0])) := fun p np => q p _ (same_new np) np ⟨_, _, _, upd_same, by decide, sb, by decide⟩
    by_cases c1 : k < ((ns.map V.int).length : Nat)
    · rw [decide_eq_true c1]
      refine iteT ⟨_, rfl, _, _, rfl, rfl, ⟨by decide, by decide, by decide⟩, _, _, rfl, rfl, _, rfl, ?_⟩
      by_cases c2 : (10 ^ (18 : Int).toNat : Int) ≤ z
      · rw [decide_eq_true c2]
        refine iteT ⟨_, rfl, _, rfl, (by show 3 ≤ sizeLine; decide), fun p np => ?_⟩
        exact q p _ (same_new np) np ⟨_, _, _, upd_same, hx, sb, by decide⟩
      · rw [decide_eq_false c2]
        exact iteF ⟨_, rfl, (by show 3 ≤ sizeLine; decide), no⟩
    · rw [decide_eq_false c1]
      exact iteF ⟨_, rfl, (by show 3 ≤ sizeLine; decide), no⟩
def spDraw : Sp := fun vs H Q _ => ∃ (a : Addr) (m : Int), vs = [.ref a, .int m] ∧ PoolAt H a ∧ (1 ≤ m ∧ m ≤ 100000) ∧ ∀ (i : Int) (H' : Hp), But a H H' → PoolAt H' a → (0 ≤ i ∧ i < m) → Q (.int i) H'
theorem ca_l_draw (T : Txt w K mg) : Ca P w K mg base 1 "_law_draw" (spDraw) := by
  refine ca_of (N := ["_law_pool_here", "_law_many", "_law_digit", "_law_number"]) (ps := ["_law_pool_here", "_law_many"]) T.f_l_draw T.g_law_draw ⟨rfl, rfl, rfl, by decide +kernel, rfl, by decide +kernel, by decide +kernel⟩ (fun _ _ _ _ _ _ us hl => match us, hl with | [_, _], _ => rfl)
    (fun vs H Q E h => by obtain ⟨a, m, rfl, ⟨g, sd, n, hp, hg, hs, hn⟩, hm, q⟩ := h; rfl) (fun cdv A outer s H vs Q E hr h => ?_)
  have nd : (["_law_pool_here", "_law_many", "_law_digit", "_law_number"] : List Str).Nodup := by decide +kernel
  obtain ⟨a, m, rfl, ⟨g, sd, n, hp, hg, hs, hn⟩, hm, q⟩ := h
  refine ⟨_, (pss_cons (ps_if (pt_cmpR op_gt (pe_ix ix_list (pv 0) pe_int (fun _ _ => rfl)) pe_int (nomark _)) (pss_cons (ps_set (i := 2) nd rfl (.inl rfl) (pe_op op_mod (pe_callTy call_int1 (by rfl) T.b_int boot_int (pa_cons (pe_ix ix_list (pv 0) pe_int (fun _ _ => rfl)) pa_nil)) (pv 1)))
      (pss_cons (ps_asg (pe_op op_fdiv (pe_ix ix_list (pv 0) pe_int (fun _ _ => rfl)) (pv 1)) (pg_sub (pv 0) pe_int set_list))
      (pss_one (ps_ret (pv 2))))) pss_nil)
      (pss_cons (ps_asg (pe_op op_add (pe_ix ix_list (pv 0) pe_int (fun _ _ => rfl)) pe_int) (pg_sub (pv 0) pe_int set_list))
      (pss_cons (ps_set (i := 3) nd rfl (.inl rfl) (pe_op op_mod (pe_callTy call_int1 (by rfl) T.b_int boot_int (pa_cons (pe_op op_mul (pe_op op_add (pe_ix ix_list (pv 0) pe_int (fun _ _ => rfl)) pe_int) (pe_op op_add (pe_op op_mul pe_int (pe_ix ix_list (pv 0) pe_int (fun _ _ => rfl))) pe_int)) pa_nil)) pe_int))
      (pss_cons (ps_set (i := 3) nd rfl (.inl rfl) (pe_op op_mod (pe_callTy call_int1 (by rfl) T.b_int boot_int (pa_cons (pe_op op_mul (pv 3) (pe_op op_add (pe_op op_fdiv (pv 3) pe_int) pe_int)) pa_nil)) pe_int))
      (pss_cons (ps_set (i := 3) nd rfl (.inl rfl) (pe_op op_mod (pe_callTy call_int1 (by rfl) T.b_int boot_int (pa_cons (pe_op op_mul (pv 3) (pe_op op_add (pe_op op_fdiv (pv 3) pe_int) pe_int)) pa_nil)) pe_int))
      (pss_one (ps_ret (pe_op op_mod (pe_callTy call_int1 (by rfl) T.b_int boot_int (pa_cons (pe_op op_fdiv (pv 3) pe_int) pa_nil)) (pv 1))))))))), ?_⟩
  have hsq : SqL K H a [.int g, .int sd, .int n] := .of hp
  refine ⟨_, rfl, _, _, _, _, rfl, rfl, hsq, at0, _, _, rfl, rfl, _, rfl, ?_⟩
  by_cases c : (0 : Int) < g
  · rw [decide_eq_true c]
    refine iteT ?_
    refine ⟨_, rfl, _, _, _, _, rfl, rfl, hsq, at0, .inl ⟨_, rfl, _, rfl, _, _, rfl, rfl, (by show (0 : Int) < m; omega), ?_⟩⟩
    refine ⟨_, rfl, _, _, _, _, rfl, rfl, hsq, at0, _, rfl, _, _, rfl, rfl, ⟨(by show (0 : Int) < m; omega), (by show m < 1073741824; omega)⟩, ?_⟩
    refine ⟨_, rfl, a, _, _, 0, rfl, rfl, hp, rfl, ?_⟩
    refine ⟨_, rfl, q _ _ But.upd ⟨g / m, sd, n, upd_same, Int.ediv_nonneg (by omega) (by omega), hs, hn⟩ ⟨Int.emod_nonneg _ (by omega), Int.emod_lt_of_pos _ (by omega)⟩⟩
  · rw [decide_eq_false c]
    refine iteF ?_
    refine ⟨_, rfl, _, _, _, _, rfl, rfl, hsq, at2, _, _, rfl, rfl, _, rfl, a, _, _, 2, rfl, rfl, hp, rfl, ?_⟩
    have hp2 : upd H a (.lst (([.int g, .int sd, .int n] : List V).set 2 (.int (n + 1)))) a = some (.lst [.int g, .int sd, .int (n + 1)]) := upd_same
    have b2 : But a H (upd H a (.lst (([.int g, .int sd, .int n] : List V).set 2 (.int (n + 1))))) := But.upd
    have hsq2 : SqL K _ a [.int g, .int sd, .int (n + 1)] := .of hp2
    have md : ∀ (u : Int), (fun (_ j : Int) => 0 < j) u m := fun u => by show (0 : Int) < m; omega
    refine ⟨_, rfl, _, _, _, _, rfl, rfl, hsq2, at1, _, _, rfl, rfl, _, rfl, _, _, _, _, rfl, rfl, hsq2, at2, _, _, rfl, rfl, .inl (by decide), _, _, rfl, rfl, _, _, rfl, rfl, .inl ?_, .inl ⟨_, rfl, _, _, rfl, rfl, (by show (0 : Int) < 2147483647; decide), ?_⟩⟩
    · show -(2 ^ 64) < sd + 1 ∧ sd + 1 < 2 ^ 64
      omega
    have mb : ∀ u : Int, -(2 ^ 64) < u % 2147483647 ∧ u % 2147483647 < 2 ^ 64 := fun u => by
      have h0 := Int.emod_nonneg u (show (2147483647 : Int) ≠ 0 by decide)
      have h1 := Int.emod_lt_of_pos u (show (0 : Int) < 2147483647 by decide)
      omega
    refine ⟨_, rfl, _, rfl, _, _, rfl, rfl, ⟨(by show (0 : Int) < 1009; decide), (by show (1009 : Int) < 1073741824; decide)⟩, _, _, rfl, rfl, _, _, rfl, rfl, .inl (by constructor <;> omega), .inl ⟨_, rfl, _, _, rfl, rfl, (by show (0 : Int) < 2147483647; decide), ?_⟩⟩
    refine ⟨_, rfl, _, rfl, _, _, rfl, rfl, ⟨(by show (0 : Int) < 2003; decide), (by show (2003 : Int) < 1073741824; decide)⟩, _, _, rfl, rfl, _, _, rfl, rfl, .inl (by constructor <;> omega), .inl ⟨_, rfl, _, _, rfl, rfl, (by show (0 : Int) < 2147483399; decide), ?_⟩⟩
    refine ⟨_, rfl, _, _, rfl, rfl, ⟨(by show (0 : Int) < 16; decide), (by show (16 : Int) < 1073741824; decide)⟩, .inl ⟨_, rfl, _, rfl, _, _, rfl, rfl, (by show (0 : Int) < m; omega), ?_⟩⟩
    exact q _ _ b2 ⟨g, sd, n + 1, hp2, hg, hs, by omega⟩ ⟨Int.emod_nonneg _ (by omega), Int.emod_lt_of_pos _ (by omega)⟩
end

end M

set_option Elab.async false
set_option linter.all false
set_option maxRecDepth 100000
set_option maxHeartbeats 2000000
namespace M
open PySem PySem.Spec PyProof.Rows L2

theorem PoolAt.ch {H : Hp} {a : Addr} (h : PoolAt H a) : Ch H a := by
  obtain ⟨_, _, _, h, _⟩ := h
  exact .lst h
theorem PoolAt.same {H H' : Hp} {a : Addr} (s : Same H H') (h : PoolAt H a) : PoolAt H' a := by
  obtain ⟨_, _, _, h, r⟩ := h
  exact ⟨_, _, _, s _ _ h, r⟩
theorem PoolAt.at {H : Hp} {a : Addr} (h : PoolAt H a) : ∃ l, H a = some (.lst l) := by
  obtain ⟨_, _, _, h, _⟩ := h
  exact ⟨_, h⟩
theorem PoolAt.but {H H' : Hp} {a D : Addr} (ne : a ≠ D) (b : But D H H') (h : PoolAt H a) : PoolAt H' a := by
  obtain ⟨_, _, _, h, r⟩ := h
  exact ⟨_, _, _, b _ _ ne h, r⟩
theorem pool_ne {H : Hp} {p b : Addr} (h : PoolAt H p) (nb : H b = none) : p ≠ b := fun e => by
  obtain ⟨_, _, _, h, _⟩ := h
  rw [e, nb] at h
  cases h
theorem pool_nl {H : Hp} {p l : Addr} (h : PoolAt H p) (nb : H l = none) : l ≠ p := fun e => (pool_ne h nb) e.symm
theorem ix_tupK {X : Cx} (K : PySem.W.Frag) (hK : X.K = K) : IxR X (rIxT K) := hK ▸ ix_tup

end M

set_option Elab.async false
set_option linter.all false
set_option maxRecDepth 100000
set_option maxHeartbeats 2000000
namespace M
open PySem PySem.Spec PyProof.Rows L2

/-! ### an own error without arguments -/
section
variable {X : Cx} {C : Addr} {bmB : List Value} {B newId initId : String}
theorem pmk_own0 {x : Str} {p pos : Pos} (F : ExcBaseFacts B newId initId bmB) (q : PySem.W.excIn X.K C bmB newId = true) (gC : X.mg x = some (.ref C)) (kC : PySem.W.keepIn X.K (.ref C) = true) (r : Raises X (.ref C)) (hg : Gl X x := by rfl)
    (hdb : (x == ("__debug__" : Str)) = false := by decide) : PMk X (.Call (.Name x p) [] [] pos) (fun _ H Q => Q (.ref C) none H) := by
  intro pins s σ H Q I h
  refine wpAny_Call_Name_kw (ld_glob I hg gC ?_ hdb)
  refine PySem.W.callWith_K0 I.kIn kC ?_
  show wpAny _ _ (call (.ref C) []) _ _ _
  obtain ⟨bm, N, nm, qn, bs, hdct, sn, sub, ab, col, dd, k0, k1, k2, k3, k5, mN, hC, hN, hni, T⟩ := exc_obj I.kIn q
  refine wpAny_call_exc_subT F T hC hN hni (fun h' e hm => ?_) (Nat.zero_le _)
  exact mk_of I hm r h (I.hok.gone hm.new)
end
/-! ### defs that may raise -/
structure CaX (P : Program) (w : World) (K : PySem.W.Frag) (mg : Str → Option Value) (base : Heap) (k : Nat) (x : Str) (sp : Sp) : Prop where
  ex : ∃ (f : Addr) (fd : FuncData) (ps : List Str), FnOk P w K mg base (L2.CX P w) k f fd ps sp ∧ mg x = some (.ref f) ∧ PySem.W.keepIn K (.ref f) = true ∧ Binds K fd ps []
structure CfX (P : Program) (w : World) (K : PySem.W.Frag) (mg : Str → Option Value) (base : Heap) (k : Nat) (x : Str) (ps : List Str) (sp : Sp) : Prop where
  ex : ∃ (fd : FuncData) (oc : Value) (od : Option Addr) (osl : Array (Option Value)), K.lookup (He.ga K x) = some ⟨oc, od, .func fd, osl⟩ ∧ FnOk P w K mg base (L2.CX P w) k (He.ga K x) fd ps sp ∧ PySem.W.keepIn K (.ref (He.ga K x)) = true ∧ Binds K fd ps []
  g : mg x = some (.ref (He.ga K x))
section
variable {P : Program} {w : World} {K : PySem.W.Frag} {mg : Str → Option Value} {base : Heap} {x m q : Str} {st : Stmt} {N ps : List Str} {k : Nat} {sp : Sp} {C f : Addr}
abbrev BodyX (P : Program) (w : World) (K : PySem.W.Frag) (mg : Str → Option Value) (base : Heap) (q : Str) (st : Stmt) (N : List Str) (k : Nat) (f : Addr) (sp : Sp) : Prop := ∀ (cdv : Value) (A : Around) (outer : List Env) (s : Shared) (H : Hp) (vs : List V) (Q : VK) (E : XK), Room k (A.deeper (envOfC q (defScope st) s.heap.objs.size f cdv)) → sp vs H Q E →
      ∃ t, PSs (cxOf (L2.CX P w) P w K mg base N q (defScope st) f cdv A outer s H E) (defBody st) t ∧ t { nx := fun _ H' => Q .non H', rt := Q } (start N vs) H
theorem ca_ofX (F : ∃ fd, FunD K x x (defArgs st) (defBody st) (defScope st) [] [] (He.fAd K (x, none)) fd) (g : mg x = some (.ref (He.ga K x))) (S : FnScope N ps (defScope st)) (hb : BindsH x x st ps) (len : ∀ vs H Q E, sp vs H Q E → vs.length = ps.length)
    (hbody : BodyX P w K mg base x st N k (He.fAd K (x, none)) sp) : CaX P w K mg base (k + 1) x sp := by
  obtain ⟨fd, F⟩ := F
  exact ⟨_, fd, ps, F.ok S len hbody, g, F.kp, F.bindsN hb⟩
theorem cf_ofX (F : ∃ fd, FunD K x x (defArgs st) (defBody st) (defScope st) [] [] (He.fAd K (x, none)) fd) (g : mg x = some (.ref (He.ga K x))) (S : FnScope N ps (defScope st)) (hb : BindsH x x st ps) (len : ∀ vs H Q E, sp vs H Q E → vs.length = ps.length)
    (hbody : BodyX P w K mg base x st N k (He.fAd K (x, none)) sp) : CfX P w K mg base (k + 1) x ps sp := by
  obtain ⟨fd, F⟩ := F
  obtain ⟨oc, od, dV, kV, doc, pm, an, cdv, ct, osl, e, lk, _⟩ := F.ex
  exact ⟨⟨fd, oc, od, osl, lk, F.ok S len hbody, F.kp, F.bindsN hb⟩, g⟩
theorem CfX.mono {j : Nat} (c : CfX P w K mg base j x ps sp) (h : j ≤ k) : CfX P w K mg base k x ps sp := by
  obtain ⟨fd, oc, od, osl, lk, F, r⟩ := c.ex
  exact ⟨⟨fd, oc, od, osl, lk, F.mono h, r⟩, c.g⟩
/-- who raises nothing may stand among those who may -/
theorem fn_toX {fd : FuncData} (F : FnOk P w K mg base CX0 k f fd ps sp) : FnOk P w K mg base (L2.CX P w) k f fd ps sp :=
  ⟨F.len, fun A outer s H args us vs Q E hr he hb hv h => codeAny_mono (F.run A outer s H args us vs Q E hr he hb hv h) fun r s' hq => by
    cases r with
    | error e => exact hq.elim
    | ok fl => cases fl <;> exact hq⟩
theorem Cf.toX (c : Cf P w K mg base k x ps sp) : CfX P w K mg base k x ps sp := by
  obtain ⟨fd, oc, od, osl, lk, F, r⟩ := c.ex
  exact ⟨⟨fd, oc, od, osl, lk, fn_toX F, r⟩, c.g⟩
end
section
variable {X : Cx} {k j : Nat} {x : Str} {sp : Sp} {p pos : Pos} {e : Expr} {es : List Expr} {t : TA}
theorem pe_caX {W : WX} (c : CaX X.prog X.w X.K X.mg X.base k x sp) (hr : Room j X.A) (tk : Takes X W) (ha : PA X (e :: es) t) (hk : k ≤ j := by decide) (hg : Gl X x := by rfl)
    (hdb : (x == ("__debug__" : Str)) = false := by decide) (he : starEach (e :: es) X.env = (false, eval e X.env) :: starEach es X.env := by rfl) (hpl : (backTo pos (starEach es X.env)).any (·.1) = false := by rfl) :
    PE X (.Call (.Name x p) (e :: es) [] pos) (tCallS sp (WE W) t) := by
  obtain ⟨f, fd, ps, F, hm, kp, b⟩ := c.ex
  exact pe_callS F (hr.mono hk) hg hm kp b (fun σ => passAt tk σ) ha hdb he hpl
/-- of several defs that the slot may hold, such as may raise -/
structure HeldX (P : Program) (w : World) (K : PySem.W.Frag) (mg : Str → Option Value) (base : Heap) (k : Nat) (f : Addr) (sp : Sp) : Prop where
  ex : ∃ (fd : FuncData) (ps : List Str), FnOk P w K mg base (L2.CX P w) k f fd ps sp ∧ PySem.W.keepIn K (.ref f) = true ∧ Binds K fd ps []
def tCallAX (i : Nat) (S : Addr → Option Sp) (E : XK) (t : TA) : TE := fun σ H Q => ∃ f sp, σ[i]? = some (some (.ref f)) ∧ S f = some sp ∧ t σ H fun vs H1 => sp vs H1 Q E
theorem pe_callAX {i : Nat} {S : Addr → Option Sp} {E : XK} (A : ∀ f sp, S f = some sp → HeldX X.prog X.w X.K X.mg X.base k f sp) (hr : Room k X.A) (tk : Takes X (fun cls d _ H => E cls d H)) (hN : X.N[i]? = some x) (hv : Vis X.env.scope x) (ha : PA X (e :: es) t)
    (hdb : (x == ("__debug__" : Str)) = false := by decide) (hcd : (x == ("__classdict__" : Str)) = false := by decide)
    (he : starEach (e :: es) X.env = (false, eval e X.env) :: starEach es X.env := by rfl) (hpl : (backTo pos (starEach es X.env)).any (·.1) = false := by rfl) : PE X (.Call (.Name x p) (e :: es) [] pos) (tCallAX i S E t) := by
  refine ⟨fun pins s σ H Q I h => ?_⟩
  obtain ⟨f, sp, hs, hS, ht⟩ := h
  obtain ⟨fd, ps, F, hk, hb⟩ := (A f sp hS).ex
  refine (pe_callL (i := i) (f := f) (sp := sp) (dvs := []) (E := E) F hr hN hv hk hb .nil (fun pins σ H s e s' I c => passAt tk σ pins H s e s' I c) ha hdb hcd he hpl).run pins s σ H Q I ⟨hs, ?_⟩
  have e0 : (fun (vs : List V) (H1 : Hp) => sp (vs ++ []) H1 Q E) = fun vs H1 => sp vs H1 Q E := by
    funext vs H1
    rw [List.append_nil]
  show t σ H (fun vs H1 => sp (vs ++ []) H1 Q E)
  rw [e0]
  exact ht
end

end M

set_option Elab.async false
set_option linter.all false
set_option maxRecDepth 100000
set_option maxHeartbeats 2000000
namespace M
open PySem PySem.Spec PyProof.Rows L2

/-! ### try with clauses, each with a name or without -/
/-- an exception has come down to the clauses: it is at a; u is the state without it, s the state now -/
structure Came (X : Cx) (pins : List (Addr × Obj)) (G : Heap) (u s : Shared) (a : Addr) (σ : L2.St) (H : Hp) (cls : Value) (d : Option Addr) : Prop where
  inv : Inv X pins σ H u
  out : ∀ b o, u.heap.get? b = some o → b ∉ frs X.stack → G.get? b = some o
  up : u.heap.UpToSlots s.heap
  fly : HandSPX.FlyingZ G (X.env :: X.outer) a (Zc cls d) s.heap
  no : H a = none
  os : s.os = u.os
  bare : AllBare s.gens
section
variable {X : Cx} {pins : List (Addr × Obj)} {G : Heap} {u s : Shared} {a : Addr} {σ : L2.St} {H : Hp} {cls : Value} {d : Option Addr}
theorem Came.now (c : Came X pins G u s a σ H cls d) : Inv X pins σ H s := c.inv.landed c.out c.fly.1 c.up c.os c.bare
theorem Came.spot (c : Came X pins G u s a σ H cls d) (hf : X.env.frame = some X.env.locals) : ∃ oe, s.heap.get? a = some oe ∧ Zc cls d oe ∧ (∃ vs, oe.data = .fields vs) ∧ a ≠ X.env.locals ∧ a ∉ X.fs := by
  obtain ⟨oe, vs, e1, e2, e3⟩ := c.fly.there
  have away : ∀ env ∈ X.env :: X.outer, env.frame ≠ some a := by
    intro env hm z
    obtain ⟨_, o2, q1, q2⟩ := c.fly.2.2.1.mem (List.mem_filterMap.mpr ⟨env, hm, z⟩ : a ∈ frs (X.env :: X.outer))
    cases e1.symm.trans q1
    exact q2 _ e3
  refine ⟨oe, e1, e2, ⟨vs, e3⟩, ?_, ?_⟩
  · intro z
    exact away X.env List.mem_cons_self (hf.trans (congrArg some z.symm))
  · intro hm
    obtain ⟨env, h1, h2⟩ := List.mem_filterMap.mp hm
    exact away env (List.mem_cons_of_mem _ h1) h2
theorem Came.on (c : Came X pins G u s a σ H cls d) {h : Heap} (fl : HandSPX.FlyingZ G (X.env :: X.outer) a (Zc cls d) h) (up : s.heap.UpToSlots h) : Came X pins G u { s with heap := h } a σ H cls d :=
  ⟨c.inv, c.out, c.up.trans up, fl, c.no, c.os, c.bare⟩
end
/-- the clauses keep their wish -/
def Hands (X : Cx) (hds : List ExceptHandler) (wish : Ends → WX) : Prop := ∀ (pins : List (Addr × Obj)) (G : Heap) (u s : Shared) (a : Addr) (σ : L2.St) (H : Hp) (cls : Value) (d : Option Addr) (D : Ends), Came X pins G u s a σ H cls d → wish D cls d σ H →
  wpAny (model X.prog X.w) X.A (handleBy (.ref a) X.env hds) (SP X pins D) X.xe s
/-- a clause without a name, then the others -/
def wOne (K : PySem.W.Frag) (c : Value) (ts : Addr → Value → Option Addr → TS) (wish : Ends → WX) : Ends → WX := fun D cls d σ H =>
  ∃ b, PySem.W.exmOne K cls c = some b ∧ (b = true → ∀ a, H a = none → ts a cls d D σ H) ∧ (b = false → wish D cls d σ H)
/-- the ends of a suite whose clause keeps the exception at the slot i -/
def lets (i : Nat) (D : Ends) : Ends := ⟨fun σ H => D.nx (σ.set i none) H, D.rt, fun σ H => D.bk (σ.set i none) H, fun σ H => D.ct (σ.set i none) H⟩
/-- a clause with a name, its slot i, then the others -/
def wNmd (K : PySem.W.Frag) (c : Value) (i : Nat) (ts : Addr → Value → Option Addr → TS) (wish : Ends → WX) : Ends → WX := fun D cls d σ H =>
  ∃ b, PySem.W.exmOne K cls c = some b ∧ (b = true → ∀ a, H a = none → ts a cls d (lets i D) (σ.set i (some (.ref a))) H) ∧ (b = false → wish D cls d σ H)
section
variable {X : Cx} {x n : Str} {c : Value} {i : Nat} {b0 : Stmt} {bs body orelse : List Stmt} {hd : ExceptHandler} {hds : List ExceptHandler} {wish : Ends → WX} {ts : Addr → Value → Option Addr → TS} {np pos hpos : Pos} {Wout : WX} {tb : WX → TS} {te : TS}
theorem hands_nil (hs : X.stack = X.env :: X.outer) (hf : X.env.frame = some X.env.locals) (tk : Takes X Wout) : Hands X [] (fun _ => Wout) := by
  intro pins G u s a σ H cls d D c h
  apply wpAny_handleBy_nil
  obtain ⟨_, _, _, oe, vs, T, oT, tr, e1, e2, e3, e4, _⟩ := id c.fly
  unfold PySem.passOn
  apply wpAny_bind
  refine wpAny_field e1 e3 e4 ?_
  have ne : ¬ ((Value.ref T == Value.none) = true) := by simp
  have last : wpAny (model X.prog X.w) X.A (setFlight (.ref a) X.env.frame) (fun _ z => wpAny (model X.prog X.w) X.A (throw (.ref a) : Sem Flow) (SP X pins D) X.xe z) X.xe s := by
    rw [hf]
    apply HandSPX.setFlight_upZ c.fly
    intro h4 held up
    apply wpAny_throw
    apply tk
    refine ⟨a, G, u, pins, σ, H, cls, d, rfl, c.inv, c.out, c.up.trans up, Or.inr (Or.inr ?_), c.no, c.os, c.bare, h⟩
    rw [hs]
    exact held
  simp only [if_neg ne]
  first
    | exact wpAny_bind (wpAny_pure (wpAny_bind last))
    | exact wpAny_bind last
theorem came_test {pins : List (Addr × Obj)} {G : Heap} {u s : Shared} {a : Addr} {σ : L2.St} {H : Hp} {cls : Value} {d : Option Addr} {b : Bool} (hc : Names X x c) (hf : X.env.frame = some X.env.locals) (k : Came X pins G u s a σ H cls d) (hb : PySem.W.exmOne X.K cls c = some b)
    {E Z : Value → Shared → Prop} {Q : Bool → Shared → Prop} (q : Q b s) : wpAny (model X.prog X.w) (X.A.mark (some (.ref a))) (eval (.Name x np) X.env) (fun v s1 => wpAny (model X.prog X.w) (X.A.mark (some (.ref a))) (excMatches (.ref a) v) Q E s1) Z s := by
  obtain ⟨oe, e1, e2, ⟨vs, e3⟩, nL, nF⟩ := k.spot hf
  have J := k.now
  have S := J.suite e1 e3 k.no nL nF
  have LT : PySem.W.Looks (model X.prog X.w) s.heap (typeOf (.ref a)) cls := by
    intro A1 Q1 E1 s1 keep q1
    refine wpAny_typeOf_ref (keep _ _ e1) ?_
    rw [e2.1]
    exact q1
  have LM := PySem.W.exm_one (M := model X.prog X.w) J.kIn LT hb
  have q2 := LM.here (A := X.A.mark (some (.ref a))) (E := E) q
  obtain ⟨h1, h2, h3⟩ := hc
  rcases h3 with h3 | ⟨h3, h4, h5⟩
  · exact ld_glob (X := X.suite a ((a, oe) :: (X.pn ++ pins))) S h1 h3 q2 h2
  · exact ld_blt (X := X.suite a ((a, oe) :: (X.pn ++ pins))) S h1 h3 h4 q2 h5 h2
theorem hands_one (hc : Names X x c) (hf : X.env.frame = some X.env.locals)
    (su : ∀ (a : Addr) (oe : Obj) (cls : Value) (d : Option Addr) (pn : List (Addr × Obj)), Zc cls d oe → (∃ vs, oe.data = .fields vs) → PSs (X.suite a ((a, oe) :: pn)) (b0 :: bs) (ts a cls d)) (r : Hands X hds wish) :
    Hands X (.ExceptHandler (some (.Name x np)) none (b0 :: bs) hpos :: hds) (wOne X.K c ts wish) := by
  intro pins G u s a σ H cls d D k h
  obtain ⟨b, h1, h2, h3⟩ := h
  refine wpAny_handleBy_cons (codeAny_handlers_test ?_) (fun q => by cases q)
  refine came_test (d := d) hc hf k h1 ?_
  cases b
  · exact r pins G u s a σ H cls d D k (h3 rfl)
  · apply codeAny_handlers_suite
    apply HandSPX.lands_againZ k.fly
    intro h4 fl4 up4
    have k4 := k.on fl4 up4
    obtain ⟨oe, e1, e2, ⟨vs, e3⟩, nL, nF⟩ := k4.spot hf
    have S := k4.now.suite e1 e3 k4.no nL nF
    refine wpAny_mono ((su a oe cls d (X.pn ++ pins) e2 ⟨vs, e3⟩).run [] _ σ H D S (h2 rfl a k.no)) ?_ (fun _ _ z => z.elim)
    intro f s6 z
    have ok := k.inv.ok
    cases f with
    | ret v =>
      obtain ⟨v6, σ6, H6, S6, z1, z2⟩ := z
      exact ⟨v6, σ6, H6, S6.unsuite ok, z1, z2⟩
    | next => exact match z with | ⟨σ6, H6, S6, z1⟩ => ⟨σ6, H6, S6.unsuite ok, z1⟩
    | brk => exact match z with | ⟨σ6, H6, S6, z1⟩ => ⟨σ6, H6, S6.unsuite ok, z1⟩
    | cont => exact match z with | ⟨σ6, H6, S6, z1⟩ => ⟨σ6, H6, S6.unsuite ok, z1⟩
theorem hands_as (hc : Names X x c) (hf : X.env.frame = some X.env.locals) (hN : X.N.Nodup) (hi : X.N[i]? = some n) (hl : X.env.kindOf n = some .local)
    (su : ∀ (a : Addr) (oe : Obj) (cls : Value) (d : Option Addr) (pn : List (Addr × Obj)), Zc cls d oe → (∃ vs, oe.data = .fields vs) → PSs (X.suite a ((a, oe) :: pn)) (b0 :: bs) (ts a cls d)) (r : Hands X hds wish) :
    Hands X (.ExceptHandler (some (.Name x np)) (some n) (b0 :: bs) hpos :: hds) (wNmd X.K c i ts wish) := by
  intro pins G u s a σ H cls d D k h
  obtain ⟨b, h1, h2, h3⟩ := h
  refine wpAny_handleBy_cons (codeAny_handlers_test ?_) (fun q => by cases q)
  refine came_test (d := d) hc hf k h1 ?_
  cases b
  · exact r pins G u s a σ H cls d D k (h3 rfl)
  · apply codeAny_handlers_suite_as
    apply HandSPX.lands_againZ k.fly
    intro h4 fl4 up4
    have k4 := k.on fl4 up4
    obtain ⟨oe, e1, e2, ⟨vs, e3⟩, nL, nF⟩ := k4.spot hf
    have S := k4.now.suite e1 e3 k4.no nL nF
    refine store_ok (X := X.suite a ((a, oe) :: (X.pn ++ pins))) (v := .ref a) S hN hi (.inl hl) rfl ?_ (.inr hl)
    intro s5 S5
    refine wpAny_mono ((su a oe cls d (X.pn ++ pins) e2 ⟨vs, e3⟩).run [] s5 _ H (lets i D) S5 (h2 rfl a k.no)) ?_ (fun _ _ z => z.elim)
    intro f s6 z
    have ok := k.inv.ok
    cases f with
    | ret v =>
      obtain ⟨v6, σ6, H6, S6, z1, z2⟩ := z
      exact gone_ok (S6.unsuite ok) hN hi hl fun s7 J7 => ⟨v6, _, H6, J7, z1, z2⟩
    | next => exact match z with | ⟨σ6, H6, S6, z1⟩ => gone_ok (S6.unsuite ok) hN hi hl fun s7 J7 => ⟨_, H6, J7, z1⟩
    | brk => exact match z with | ⟨σ6, H6, S6, z1⟩ => gone_ok (S6.unsuite ok) hN hi hl fun s7 J7 => ⟨_, H6, J7, z1⟩
    | cont => exact match z with | ⟨σ6, H6, S6, z1⟩ => gone_ok (S6.unsuite ok) hN hi hl fun s7 J7 => ⟨_, H6, J7, z1⟩
/-- try: body, then clauses that keep their wish, and an else -/
theorem ps_tryH (hh : Hands X (hd :: hds) wish) (hs : X.stack = X.env :: X.outer) (hf : X.env.frame = some X.env.locals)
    (hb : ∀ (W : WX) (pn : List (Addr × Obj)) (xe : Value → Shared → Prop), Takes (X.tr pn xe) W → PassesOwn (model X.prog X.w) X.A X.env xe → PSs (X.tr pn xe) body (tb W)) (ho : PSs X orelse te) :
    PS X (.Try body (hd :: hds) orelse [] pos) (fun D σ H => tb (wish D) ⟨te D, D.rt, D.bk, D.ct⟩ σ H) := by
  refine ⟨?_⟩
  intro pins s σ H D I h
  have hfr : X.A.frames = some (X.env :: X.outer) := I.ok.frames.trans (congrArg some hs)
  let xe : Value → Shared → Prop := fun e z => wpAny (model X.prog X.w) X.A (noteFrame e X.env) (fun _ z2 => wpAny (model X.prog X.w) X.A (setFlight e none) (fun _ z3 => wpAny (model X.prog X.w) X.A (handleBy e X.env (hd :: hds)) (SP X pins D) X.xe z3) X.xe z2) X.xe z
  have catches : Takes (X.tr (X.pn ++ pins) xe) (wish D) := by
    intro e z w
    obtain ⟨a, G, z0, pins1, σ1, H1, cls, d, rfl, J, w1, w2, w3, w4, w5, w6, w7⟩ := w
    have w3 : Sky G X.stack a (Zc cls d) X.env.locals z.heap := w3
    rw [hs] at w3
    refine Sky.land (M := model X.prog X.w) (A := X.A) (E₁ := X.xe) Zc.steady hfr hf w3 ?_
    intro h3 fl up
    exact hh pins G z0 { z with heap := h3 } a σ1 H1 cls d D ⟨J.ofTry I.ok, w1, w2.trans up, fl, w4, w5, w6⟩ w7
  apply wpAny_Try_except
  refine wpAny_mono ((hb (wish D) (X.pn ++ pins) xe catches PassesOwn.looking).run [] s σ H _ (I.toTry _) h) ?_ (fun _ _ z => z)
  intro f s1 z
  cases f with
  | ret v => exact match z with | ⟨v1, σ1, H1, J, z1, z2⟩ => ⟨v1, σ1, H1, J.ofTry I.ok, z1, z2⟩
  | brk => exact match z with | ⟨σ1, H1, J, z1⟩ => ⟨σ1, H1, J.ofTry I.ok, z1⟩
  | cont => exact match z with | ⟨σ1, H1, J, z1⟩ => ⟨σ1, H1, J.ofTry I.ok, z1⟩
  | next =>
    obtain ⟨σ1, H1, J, z1⟩ := z
    exact ho.run pins s1 σ1 H1 D (J.ofTry I.ok) z1
end

end M

set_option Elab.async false
set_option linter.all false
set_option maxRecDepth 100000
set_option maxHeartbeats 2000000
namespace M
open PySem PySem.Spec PyProof.Rows L2

/-! ### errors with a field -/
theorem oexS_ok {K : PySem.W.Frag} {C : Addr} (h : oexS K C = true) : ∃ nm q N bs bm sn sub ab col dd k0 k1 k2 k3 k5, K.lookup C = some (excClassObj nm q C N bs bm true sn sub ab col dd k0 k1 k2 k3 k5 "ValueError.__new__") ∧ PySem.HandSPX.refsVE bm = true := by
  unfold oexS at h
  split at h
  · rename_i t dd cd sl hl
    split at h
    · rename_i D bm k0 k1 k2 k3 n k5 hm hs
      obtain ⟨h1, h⟩ := He.ba h
      obtain ⟨h2, h⟩ := He.ba h
      obtain ⟨h3, h⟩ := He.ba h
      obtain ⟨h4, h⟩ := He.ba h
      obtain ⟨h5, h6⟩ := He.ba h
      cases of_decide_eq_true h1
      cases of_decide_eq_true h2
      cases of_decide_eq_true h3
      obtain ⟨nm, bs, mr, ns, qn, hd, sn, sub, ab, col, de⟩ := cd
      dsimp only at hm h4 h5
      subst hm
      cases h4
      have h5 : de = false := by cases de <;> first | rfl | cases h5
      subst h5
      obtain ⟨sl⟩ := sl
      have hs : sl = [k0, k1, k2, k3, some (.builtin "ValueError.__new__"), k5] := hs
      subst hs
      exact ⟨nm, qn, ns, bs, bm, sn, sub, ab, col, dd, k0, k1, k2, k3, k5, hl, h6⟩
    · cases h
  · cases h
/-- the class x is an error class with an __init__ of its own, which keeps the field f -/
structure Xc (K : PySem.W.Frag) (x f : Str) : Prop where
  oex : OexC K (He.ga K x)
  xf : XfC K (He.ga K x)
  no : PySem.W.findIn K (.ref (He.ga K x)) f = some none
  ini : PySem.W.findIn K (.ref (He.ga K x)) "__init__" = some (some (.ref (He.ma K (He.ga K x) "__init__")))
  fn : PySem.W.typeIn K (.ref (He.ma K (He.ga K x) "__init__")) = some (.type "function")
theorem oexB_ok {K : PySem.W.Frag} {x f : Str} (h : oexB K x f = true) : Xc K x f := by
  obtain ⟨h1, h⟩ := He.ba h
  obtain ⟨h2, h⟩ := He.ba h
  obtain ⟨h3, h⟩ := He.ba h
  obtain ⟨h4, h⟩ := He.ba h
  obtain ⟨h5, h⟩ := He.ba h
  obtain ⟨h6, h⟩ := He.ba h
  obtain ⟨h7, h⟩ := He.ba h
  obtain ⟨h8, h9⟩ := He.ba h
  exact ⟨⟨oexS_ok h1, He.eqO_ok h2, of_decide_eq_true h3, of_decide_eq_true h4, h5⟩, xfB_ok h6, He.eqO_ok h7, He.eqO_ok h8, of_decide_eq_true h9⟩
section
variable {X : Cx} {x f : Str} {e : Expr} {es : List Expr} {ta : TA} {p1 p2 p pos : Pos}
/-- PastError.__init__(self, ..) -/
theorem pe_pinit {pl : Sem Bool} (hm : X.mg x = some (.ref (He.ga X.K x))) (pn : pinB X.K x = true) (ha : PA X (e :: es) ta) (hg : Gl X x := by rfl) (hdb : (x == ("__debug__" : Str)) = false := by decide)
    (hc : eval (.Call (.Attribute (.Name x p1) "__init__" p2) (e :: es) [] pos) X.env = (do
      let ov ← eval (.Name x p1) X.env
      standAt p2.atName
      let (f, first) ← holding [ov] (getMethod ov "__init__" pl)
      callWith pos f first (backTo pos (starEach (e :: es) X.env)) (backToKw pos (keywordEach [] X.env))) := by rfl)
    (he : starEach (e :: es) X.env = (false, eval e X.env) :: starEach es X.env := by rfl) (hpl : (backTo pos (starEach es X.env)).any (·.1) = false := by rfl) :
    PE X (.Call (.Attribute (.Name x p1) "__init__" p2) (e :: es) [] pos) (tVeI X.K ta) := by
  obtain ⟨h1, pn⟩ := He.ba pn
  obtain ⟨h2, h3⟩ := He.ba pn
  have h3 : PySem.W.findCls X.K (.ref (He.ga X.K x)) (.type "type") "__init__" = some (.val (.builtin "ValueError.__init__")) := by
    split at h3
    · rename_i i hi
      cases of_decide_eq_true h3
      exact hi
    · cases h3
  refine ⟨?_⟩
  intro pins s σ H Q I h
  refine PySem.W.methodCall_KW ?_ hc
  refine ld_glob I hg hm ?_ hdb
  refine PySem.W.method_cls I.kIn (of_decide_eq_true h2) ?_
  refine PySem.W.cls_value I.kIn h1 h3 (by decide +kernel) ?_
  refine PyProof.Rows.callWith_method1 (id := "ValueError.__init__") (thn (ha.run pos pins _ σ H _ (I.tok _) h) ?_) he hpl
  rintro us s1 ⟨vs, H1, I1, r1, a, C, ws, rfl, hl, T, ea, q⟩
  obtain ⟨u0, ur, rfl, ra, rw'⟩ : ∃ u0 ur, us = u0 :: ur ∧ RelV (.ref a) u0 ∧ Vals ws ur := by
    cases r1 with | cons z1 z2 => exact ⟨_, _, rfl, z1, z2⟩
  cases (ra : u0 = Value.ref a)
  refine oinit_ok T I1 ea ?_ fun s2 J => ⟨.non, H1, J, rfl, q⟩
  rw [sizeLine_eq, ← Paired.length rw']
  omega
end
/-- what such an __init__ does -/
def spXi (K : PySem.W.Frag) (x f : Str) : Sp := fun vs H Q _ => ∃ (a : Addr) (v : V), vs = [.ref a, v] ∧ H a = some (exo a (He.ga K x) none) ∧ ∀ dx, H dx = none → dx ≠ a → Q .non (upd (upd H dx (exd dx [(f, v)])) a (exo a (He.ga K x) (some dx)))
/-- the error class x, its __init__ known -/
structure Xi (P : Program) (w : World) (K : PySem.W.Frag) (mg : Str → Option Value) (base : Heap) (k : Nat) (x f : Str) : Prop where
  c : Xc K x f
  g : mg x = some (.ref (He.ga K x))
  ex : ∃ (fd : FuncData) (ps : List Str), FnOk P w K mg base CX0 k (He.ma K (He.ga K x) "__init__") fd ps (spXi K x f) ∧ Binds K fd ps []
section
variable {P : Program} {w : World} {K : PySem.W.Frag} {mg : Str → Option Value} {base : Heap} {x f q : Str} {st : Stmt} {N ps : List Str} {k : Nat}
theorem xi_of (F : ∃ fd, FunD K "__init__" q (defArgs st) (defBody st) (defScope st) [] [] (He.fAd K (x, some "__init__")) fd) (g : mg x = some (.ref (He.ga K x))) (o : oexB K x f = true) (S : FnScope N ps (defScope st)) (hb : BindsH "__init__" q st ps) (two : ps.length = 2)
    (hbody : BodyH P w K mg base q st N k (He.fAd K (x, some "__init__")) (spXi K x f)) : Xi P w K mg base (k + 1) x f := by
  obtain ⟨fd, F⟩ := F
  refine ⟨oexB_ok o, g, fd, ps, fn_d F S ?_ hbody, F.bindsN hb⟩
  rintro vs H Q E ⟨a, v, rfl, _⟩
  exact two.symm
end
/-- what such an __init__ keeps, where an error was just laid -/
theorem xi_made {K : PySem.W.Frag} {x f : Str} {H : Hp} {a : Addr} {v : V} {Q : VK} {E : XK} (g : ∀ d, H d = none → d ≠ a → Q .non (upd (upd H d (exd d [(f, v)])) a (exo a (He.ga K x) (some d)))) : spXi K x f [.ref a, v] (upd H a (exo a (He.ga K x) none)) Q E := by
  refine ⟨a, v, rfl, upd_same, ?_⟩
  intro d hd hne
  have hd2 : H d = none := by rwa [upd_ne hne] at hd
  have e : upd (upd (upd H a (exo a (He.ga K x) none)) d (exd d [(f, v)])) a (exo a (He.ga K x) (some d)) = upd (upd H d (exd d [(f, v)])) a (exo a (He.ga K x) (some d)) := by
    funext b
    by_cases hb : b = a
    · rw [hb, upd_same, upd_same]
    · rw [upd_ne hb, upd_ne hb]
      by_cases hc : b = d
      · rw [hc, upd_same, upd_same]
      · rw [upd_ne hc, upd_ne hc, upd_ne hb]
  rw [e]
  exact g d hd2 hne
/-! ### such an error, raised -/
section
variable {X : Cx} {k j : Nat} {x f : Str} {e : Expr} {te : TE} {p pos : Pos}
/-- raise x(e) -/
theorem pmk_x (c : Xi X.prog X.w X.K X.mg X.base k x f) (hr : Room j X.A) (he : PE X e te) (hs : starEach [e] X.env = (false, eval e X.env) :: starEach [] X.env := by rfl) (hpl : (backTo pos (starEach [] X.env)).any (·.1) = false := by rfl) (hk : k + 1 ≤ j := by decide) (hg : Gl X x := by rfl)
    (hdb : (x == ("__debug__" : Str)) = false := by decide) : PMk X (.Call (.Name x p) [e] [] pos) (tMkO (He.ga X.K x) (spXi X.K x f) [] (tCons te tNil)) := by
  obtain ⟨fd, ps, F, b⟩ := c.ex
  exact pmk_oex (CX := CX0) (p := p) (pos := pos) c.c.oex c.c.ini c.c.fn F (hr.mono hk) b .nil L2.pass0 hg c.g (pa_cons he pa_nil hs) hdb hs hpl
/-- raise x() -/
theorem ps_raise0 {W : WX} {rp : Pos} (K : PySem.W.Frag) (hK : X.K = K) {bmB : List Value} {B newId initId : String} (F : ExcBaseFacts B newId initId bmB) (c : PySem.W.excIn X.K (He.ga X.K x) bmB newId = true ∧ PySem.W.keepIn X.K (.ref (He.ga X.K x)) = true ∧ PySem.W.subIn X.K (.ref (He.ga X.K x)) (.type "BaseException") = some true ∧ PySem.W.typeIn X.K (.ref (He.ga X.K x)) = some (.type "type"))
    (g : X.mg x = some (.ref (He.ga X.K x))) (hc : X.calm = true) (tk : Takes X W) (hg : Gl X x := by rfl) (hdb : (x == ("__debug__" : Str)) = false := by decide) : PS X (.Raise (some (.Call (.Name x p) [] [] pos)) none rp) (fun _ σ H => W (.ref (He.ga K x)) none σ H) := by
  subst hK
  exact ps_raise hc tk (pmk_own0 F c.1 g c.2.1 (raises_own c.2.2.1 c.2.2.2) hg hdb)
/-- .. what is to be shown then -/
theorem xi_raised {K : PySem.W.Frag} {x f : Str} {H : Hp} {v : V} {Q : XK} (g : ∀ d, H d = none → Q (.ref (He.ga K x)) (some d) (upd H d (.xd [(f, v)]))) : [v].length ≤ 1000 ∧ ∀ a, H a = none → spXi K x f (.ref a :: ([v] ++ [])) (upd H a (exo a (He.ga K x) none))
    (fun u H2 => u = .non ∧ ∃ (d : Addr) (fs : List (Str × V)), H2 a = some (exo a (He.ga K x) (some d)) ∧ H2 d = some (exd d fs) ∧ H d = none ∧ Q (.ref (He.ga K x)) (some d) (upd (del H2 a) d (.xd fs))) (fun _ _ _ => False) := by
  refine ⟨by show 1 ≤ 1000; decide, ?_⟩
  intro a ha
  refine xi_made ?_
  intro d hd hne
  refine ⟨rfl, d, [(f, v)], upd_same, ?_, hd, ?_⟩
  · rw [upd_ne hne, upd_same]
  · have e : upd (del (upd (upd H d (exd d [(f, v)])) a (exo a (He.ga K x) (some d))) a) d (.xd [(f, v)]) = upd H d (.xd [(f, v)]) := by
      funext b
      by_cases hb : b = d
      · rw [hb, upd_same, upd_same]
      · rw [upd_ne hb, upd_ne hb]
        by_cases hc : b = a
        · rw [hc, del_same, ha]
        · rw [del_ne hc, upd_ne hc, upd_ne hb]
    rw [e]
    exact g d hd
/-- a reading may be weakened behind the expression -/
def tUp (te : TE) : TE := fun σ H Q => ∃ R : VK, te σ H R ∧ ∀ v H1, R v H1 → Q v H1
theorem pe_up (he : PE X e te) : PE X e (tUp te) := by
  refine ⟨?_⟩
  rintro pins s σ H Q I ⟨R, h, i⟩
  refine wpAny_mono (he.run pins s σ H R I h) ?_ (fun _ _ z => z)
  rintro u s1 ⟨v, H1, J, r, z⟩
  exact ⟨v, H1, J, r, i v H1 z⟩
theorem ps_raiseX {W : WX} {rp : Pos} (K : PySem.W.Frag) (hK : X.K = K) (c : Xi X.prog X.w X.K X.mg X.base k x f) (hc : X.calm = true) (tk : Takes X W) (hr : Room j X.A) (he : PE X e te) (hs : starEach [e] X.env = (false, eval e X.env) :: starEach [] X.env := by rfl) (hpl : (backTo pos (starEach [] X.env)).any (·.1) = false := by rfl) (hk : k + 1 ≤ j := by decide)
    (hg : Gl X x := by rfl) (hdb : (x == ("__debug__" : Str)) = false := by decide) : PS X (.Raise (some (.Call (.Name x p) [e] [] pos)) none rp) (fun _ σ H => te σ H fun v H1 => ∀ d, H1 d = none → W (.ref (He.ga K x)) (some d) σ (upd H1 d (.xd [(f, v)]))) := by
  subst hK
  have r := ps_raise (pos := rp) hc tk (pmk_x (p := p) (pos := pos) c hr (pe_up he) hs hpl hk hg hdb)
  refine ⟨?_⟩
  intro pins s σ H D I h
  refine r.run pins s σ H D I ⟨_, h, ?_⟩
  intro v H1 z
  exact xi_raised (Q := fun cls d H' => W cls d σ H') z
/-- x(e), as a value -/
theorem pe_x (c : Xi X.prog X.w X.K X.mg X.base k x f) (hr : Room j X.A) (he : PE X e te) (hs : starEach [e] X.env = (false, eval e X.env) :: starEach [] X.env := by rfl) (hpl : (backTo pos (starEach [] X.env)).any (·.1) = false := by rfl) (hk : k + 1 ≤ j := by decide) (hg : Gl X x := by rfl)
    (hdb : (x == ("__debug__" : Str)) = false := by decide) :
    PE X (.Call (.Name x p) [e] [] pos) (fun σ H Q => te σ H fun v H1 => ∀ a d, H1 a = none → H1 d = none → d ≠ a → Q (.ref a) (upd (upd H1 d (exd d [(f, v)])) a (exo a (He.ga X.K x) (some d)))) := by
  obtain ⟨fd, ps, F, bd⟩ := c.ex
  obtain ⟨nm, q, N, bs, bm, sn, sub, ab, col, dd, k0, k1, k2, k3, k5, hC, hbm⟩ := c.c.oex.cls
  refine ⟨?_⟩
  intro pins s σ H Q I h
  refine wpAny_Call_Name_kw (ld_glob I hg c.g ?_ hdb)
  refine PySem.W.callWith_K (h₀ := X.base) I.ok.mod.kin c.c.oex.kC ?_ hs hpl
  rw [hs]
  refine Calls.spliced_cons (thn (he.run pins s σ H _ I h) ?_)
  rintro u s1 ⟨v, H1, I1, r1, q1⟩
  refine Calls.spliced_nil ⟨I1.kIn, ?_⟩
  show wpAny _ _ (call (.ref (He.ga X.K x)) [u]) _ _ _
  obtain ⟨hp, g, dr, tk, os⟩ := s1
  let h2 := (hp.push (PySem.W.kdv_tup [u])).push (PySem.HandSPX.excO (He.ga X.K x) hp.objs.size)
  have le : hp.objs.size ≤ hp.objs.size + 1 := Nat.le_succ _
  have kk : ∀ b o, hp.get? b = some o → h2.get? b = some o := by
    intro b o e
    exact Heap.get?_push_of_some _ (Heap.get?_push_of_some _ e)
  have hget : h2.get? (hp.objs.size + 1) = some (PySem.HandSPX.excO (He.ga X.K x) hp.objs.size) := by
    show ((hp.push (PySem.W.kdv_tup [u])).push (PySem.HandSPX.excO (He.ga X.K x) hp.objs.size)).get? (hp.objs.size + 1) = _
    heap_get
  have I2 : Inv X pins σ (upd H1 (hp.objs.size + 1) (exo (hp.objs.size + 1) (He.ga X.K x) none)) ⟨h2, g, dr, tk, os⟩ := I1.laid (t' := tk) kk le (exo_ok hget)
  have rv : Vals [V.ref (hp.objs.size + 1), v] [Value.ref (hp.objs.size + 1), u] := .cons rfl (.cons r1 .nil)
  have want : spXi X.K x f [V.ref (hp.objs.size + 1), v] (upd H1 (hp.objs.size + 1) (exo (hp.objs.size + 1) (He.ga X.K x) none)) (fun z H2 => z = .non ∧ Q (.ref (hp.objs.size + 1)) H2) (fun _ _ _ => False) :=
    xi_made fun d hd hne => ⟨rfl, q1 _ d (I1.hok.fresh le) hd hne⟩
  have two : [Value.ref (hp.objs.size + 1), u].length = ps.length := by
    rw [← rv.length]
    exact F.len _ _ _ _ want
  have b2 := bd ⟨h2, g, dr, tk, os⟩ [Value.ref (hp.objs.size + 1), u] I2.kIn (by rw [List.append_nil]; exact two)
  rw [List.append_nil] at b2
  refine wpAny_call (PySem.HandSPX.call_own PySem.F.excBase_ValueError (fun Y => PySem.HandSPX.refsVE_contains Y bm hbm) (I1.kIn _ _ hC) (PySem.W.looks_findIn I1.kIn c.c.ini) (fun self => PySem.W.bind_fn I1.kIn self c.c.fn) (by rw [sizeLine_eq]; show 1 ≤ 16777216; decide) ?_)
  refine codeAny_mono (F.run _ X.stack _ _ ⟨[Value.ref (hp.objs.size + 1), u], []⟩ _ _ _ (fun _ _ _ => False) ((hr.mono hk).make (He.ga X.K x) [u] []) (I2.env0.make (He.ga X.K x) [u] []) b2 rv want) ?_
  intro r s3 z
  cases r with
  | error er => exact z.elim
  | ok fl =>
    cases fl with
    | ret y =>
      obtain ⟨v4, H4, J, r4, e4, q4⟩ := I2.after z
      subst e4
      cases (r4 : y = Value.none)
      exact ⟨rfl, .ref (hp.objs.size + 1), H4, J, rfl, q4⟩
    | next => exact z.elim
    | brk => exact z.elim
    | cont => exact z.elim
end

end M

set_option Elab.async false
set_option linter.all false
set_option maxRecDepth 100000
set_option maxHeartbeats 2000000
namespace M
open PySem PySem.Spec PyProof.Rows L2

/-! ### errors as values: isinstance, fields -/
section
open PySem.W PySem.Calls
variable {prog : Program} {w : World} {A : Around} {E : Value → Shared → Prop} {s : Shared} {K : PySem.W.Frag} {x C : Addr} {ox : Obj} {od : Option Obj}
/-- what isinstance asks of an error class -/
structure Isx (K : PySem.W.Frag) (C : Addr) : Prop where
  xf : XfC K C
  cl : PySem.W.findIn K (.ref C) "__class__" = some (some (.builtin "object.__class__"))
  sp : PySem.W.specialIn K (.builtin "object.__class__") "__get__" = some (some (.builtin "getset_descriptor.__get__"))
  tk : PySem.W.takesIn K (.builtin "object.__class__") = some true
  mo : PySem.W.mroIn K C (.type "object") = some true
theorem isx_find (c : Isx K C) : PySem.W.findObj K C od "__class__" = some (.bind (.builtin "getset_descriptor.__get__") (.builtin "object.__class__")) := by
  obtain ⟨cd, hc, _⟩ := PySem.W.any_some c.xf.hdC
  unfold PySem.W.findObj
  rw [hc]
  simp only [Option.bind_some, c.cl, c.sp, c.tk]
/-- the class of an error is asked -/
theorem isx_class (c : Isx K C) (X : K.In s.heap) (I : PySem.W.InstAt s.heap x ox C od) {Q : Option Value → Shared → Prop} (h : Q (some (.ref C)) { s with toks := s.toks + 1 }) : wpAny (model prog w) A (getAttr? (.ref x) "__class__") Q E s := by
  obtain ⟨hp, g, d, t, os⟩ := s
  have typ := I.type (M := model prog w)
  have get := looks_findIn (M := model prog w) X c.xf.ga
  have hook := looks_findIn (M := model prog w) X c.xf.gg
  have fnd := looks_find (M := model prog w) X I (isx_find c)
  have isB : Looks (model prog w) hp (isInstance (.ref x) (.type "BaseException")) true := typ.andThen (looks_subIn X c.xf.exC)
  have ne : (Value.builtin "BaseException.__getattribute__" == Value.builtin "object.__getattribute__") = false := by decide +kernel
  have n1 : (onTheHeap (Value.ref C) && Value.builtin "BaseException.__getattribute__" == Value.builtin "object.__getattribute__") = false := by
    rw [ne]
    exact Bool.and_false _
  have n2 : (false && onTheHeap (Value.builtin "BaseException.__getattribute__")) = false := Bool.false_and _
  unfold getAttr? getAttrBy? getAttrBy
  apply wpAny_bind
  refine wpAny_mkText (wpAny_bind (wpAny_attempt (wpAny_holding (wpAny_bind (typ.at ?_)))))
  refine wpAny_bind (get.at ?_)
  dsimp only
  rw [n1, if_neg (by decide : ¬ (false = true))]
  unfold getAttrByItsOwn hookBefore
  apply wpAny_bind
  rw [if_pos (by rfl : onTheHeap (Value.ref C) = true)]
  refine hook.at (wpAny_bind (wpAny_attempt (wpAny_holding ?_)))
  unfold callGetattribute
  rw [n2, if_neg (by decide : ¬ (false = true))]
  unfold boundAndCalled
  rw [PySem.F.excAttr_ValueError.ga.bind (.ref x)]
  apply wpAny_bind
  apply wpAny_pure
  show wpAny (model prog w) _ (call (.builtin "BaseException.__getattribute__") [.ref x, .str "__class__" t]) _ _ _
  apply wpAny_call
  refine codeAny_call_builtin PySem.F.excAttr_ValueError.ga.plain PySem.F.entry_bexc_ga ?_
  refine @check_slot (model prog w) _ _ ⟨hp, g, d, t + 1, os⟩ "BaseException.__getattribute__" "BaseException" "__getattribute__" (.ref x) [.str "__class__" t] [] _ (by decide +kernel) (by decide +kernel) isB (PySem.F.args_bexc_ga (.ref x) (.str "__class__" t)) ?_
  unfold Builtin.«object.__getattribute__»
  apply wpAny_bind
  refine wpAny_of_eq (a := ((Value.ref x : Value), [Value.str "__class__" t])) (by first | rfl | (simp only [slotArgs]; rfl)) ?_
  apply wpAny_bind
  apply wpAny_pure
  refine wpAny_bind (typ.at ?_)
  refine wpAny_bind (fnd.at ?_)
  show wpAny (model prog w) _ (holding [Value.builtin "object.__class__"] (call (.builtin "getset_descriptor.__get__") [.builtin "object.__class__", .ref x, .ref C]) >>= ret) _ _ _
  apply wpAny_bind
  refine wpAny_holding (wpAny_call (class_get (s := ⟨hp, g, d, t + 1, os⟩) (ox := ox) (od := od) X I c.mo ?_))
  apply wpAny_pure
  show wpAny (model prog w) _ (handedOut (.ref C)) _ _ _
  rw [handedOut_of (v := .ref C) (by rfl)]
  apply wpAny_pure
  first
    | exact wpAny_pure h
    | exact wpAny_bind (wpAny_pure (wpAny_pure h))
    | exact h
theorem isx_kit (c : Isx K C) : PySem.W.KitX K (.ref x) (.ref C) (fun h => ∃ ox od, PySem.W.InstAt h x ox C od) := by
  obtain ⟨cd, hc, _⟩ := PySem.W.any_some c.xf.hdC
  have at_ : ∃ q d sl, K.lookup C = some ⟨q, d, .cls cd, sl⟩ := by
    unfold PySem.W.clsIn at hc
    split at hc
    · rename_i q d cd2 sl ho
      cases hc
      exact ⟨q, d, sl, ho⟩
    · cases hc
  obtain ⟨q, d, sl, ho⟩ := at_
  refine ⟨?_, ?_, ?_, ?_⟩
  · rintro M h _ ⟨ox, od, I⟩
    exact I.type
  · intro M h X _ A1 Q1 E1 s1 k z
    unfold isType loadHead
    apply wpAny_bind
    exact wpAny_loadPart (k _ _ (X _ _ ho)) (wpAny_pure z)
  · intro h tp dd its n sl2 X htp
    cases e : (Value.ref C == .ref tp) with
    | false => rfl
    | true =>
      cases Value.ref.inj (beq_iff_eq.mp e)
      cases (X _ _ ho).symm.trans htp
  · rintro prog w A E Q s X ⟨ox, od, I⟩ z
    exact isx_class c X I z
end
/-- an error of the class x stands at a: without fields, or with these -/
def ErrAt (K : PySem.W.Frag) (H : Hp) (x : Str) (a : Addr) : Prop := H a = some (ExO (.ref (He.ga K x)) a) ∨ ∃ d fs, H a = some (exo a (He.ga K x) (some d)) ∧ H d = some (exd d fs)
section
variable {X : Cx} {pins : List (Addr × Obj)} {σ : L2.St} {H : Hp} {s : Shared} {x y f : Str} {a d : Addr} {e : Expr} {te : TE} {p p1 p2 pos : Pos}
theorem err_inst (I : Inv X pins σ H s) (h : ErrAt X.K H x a) : ∃ ox od, PySem.W.InstAt s.heap a ox (He.ga X.K x) od := by
  rcases h with h | ⟨d, fs, h1, h2⟩
  · obtain ⟨⟨oe, vs, e1, e2, e3, _⟩, _⟩ := (show ObjOk X.prog X.w H s.heap a (ExO (.ref (He.ga X.K x)) a) from I.hok a _ h)
    obtain ⟨oc, od, da, sl⟩ := oe
    obtain ⟨z1, z2⟩ := e2
    dsimp only at z1 z2 e3
    subst z1 z2 e3
    exact ⟨_, none, e1, rfl, rfl, True.intro⟩
  · obtain ⟨t1, e1⟩ := exo_at I.hok h1
    obtain ⟨mA, ⟨o, es, ep, e2, _⟩, _⟩ := exd_at I.hok h2
    exact ⟨_, some o, e1, rfl, rfl, e2⟩
/-- isinstance(e, y) of an error -/
def rIsx (K : PySem.W.Frag) (y : Str) : List V → Hp → VK → Prop := fun vs H Q => ∃ (a : Addr) (x : Str) (b : Bool), vs = [.ref a, .ref (He.ga K y)] ∧ ErrAt K H x a ∧ Isx K (He.ga K x) ∧ PySem.W.kitOne K (.ref (He.ga K x)) (.ref (He.ga K y)) = some b ∧ Q (.bl b) H
theorem call_isx (y : Str) : CallR X (.builtin "isinstance") (rIsx X.K y) := by
  intro pins s σ H vs us Q I r h
  obtain ⟨a, x, b, rfl, h1, h2, h3, h4⟩ := h
  obtain ⟨u1, u2, rfl, r1, r2⟩ := vals2 r
  cases (show u1 = Value.ref a from r1)
  cases (show u2 = Value.ref (He.ga X.K y) from r2)
  exact PySem.W.kia_one (isx_kit h2) I.kIn (err_inst I h1) h3 (fun z => nomatch z) fun tk => ⟨.bl b, H, I.tok tk, rfl, h4⟩
/-- isinstance(e, ValueError) -/
def rIsxT (K : PySem.W.Frag) (n : String) : List V → Hp → VK → Prop := fun vs H Q => ∃ (a : Addr) (x : Str) (b : Bool), vs = [.ref a, .ty n] ∧ ErrAt K H x a ∧ Isx K (He.ga K x) ∧ PySem.W.kitOne K (.ref (He.ga K x)) (.type n) = some b ∧ Q (.bl b) H
theorem call_isxT (n : String) : CallR X (.builtin "isinstance") (rIsxT X.K n) := by
  intro pins s σ H vs us Q I r h
  obtain ⟨a, x, b, rfl, h1, h2, h3, h4⟩ := h
  obtain ⟨u1, u2, rfl, r1, r2⟩ := vals2 r
  cases (show u1 = Value.ref a from r1)
  cases (show u2 = Value.type n from r2)
  exact PySem.W.kia_one (isx_kit h2) I.kIn (err_inst I h1) h3 (fun z => nomatch z) fun tk => ⟨.bl b, H, I.tok tk, rfl, h4⟩
/-- e.f of an error -/
theorem pe_xfv (he : PE X e te) (hb : attributeBase e f X.env (eval e X.env) = eval e X.env := by rfl) : PE X (.Attribute e f pos) (fun σ H Q => te σ H fun v H1 => ∃ (a : Addr) (x : Str) (d : Addr) (fs : List (Str × V)) (u : V), v = .ref a ∧ H1 a = some (exo a (He.ga X.K x) (some d)) ∧ H1 d = some (exd d fs) ∧
    XfC X.K (He.ga X.K x) ∧ PySem.W.findIn X.K (.ref (He.ga X.K x)) f = some none ∧ fs.lookup f = some u ∧ Q u H1) := by
  refine ⟨?_⟩
  intro pins s σ H Q I h
  refine attr_of hb (thn (he.run pins s σ H _ I h) ?_)
  rintro u s1 ⟨v, H1, I1, rv, a, x, d, fs, y, rfl, h1, h2, c, no, hl, q⟩
  cases (rv : u = Value.ref a)
  obtain ⟨t1, e1⟩ := exo_at I1.hok h1
  obtain ⟨mA, hns, rel⟩ := exd_at I1.hok h2
  obtain ⟨od, ho, hlk⟩ := lookIn_ns hns
  obtain ⟨u, hu, ru⟩ := RelO.some_of (v := y) (o := mA f) (hl ▸ rel f)
  have J : PySem.W.InstAt s1.heap a { cls := .ref (He.ga X.K x), dict := some d, data := .fields #[.ref t1, .none, .none, .none, .bool false, .none] } (He.ga X.K x) (some od) := ⟨e1, rfl, rfl, ho⟩
  refine HandSPX.exc_get I1.kIn J c.ga c.gg c.exC (PySem.W.findObj_own c.hdC no rfl ?_) (handed_of ru) ⟨y, H1, I1.tok _, ru, q⟩
  rw [hlk, hu]
/-- x(), an error class without an __init__ of its own, as a value -/
theorem pe_x0 {bmB : List Value} {B newId initId : String} (F : ExcBaseFacts B newId initId bmB) (c : PySem.W.excIn X.K (He.ga X.K x) bmB newId = true ∧ PySem.W.keepIn X.K (.ref (He.ga X.K x)) = true ∧ PySem.W.subIn X.K (.ref (He.ga X.K x)) (.type "BaseException") = some true ∧ PySem.W.typeIn X.K (.ref (He.ga X.K x)) = some (.type "type"))
    (g : X.mg x = some (.ref (He.ga X.K x))) (hg : Gl X x := by rfl) (hdb : (x == ("__debug__" : Str)) = false := by decide) :
    PE X (.Call (.Name x p) [] [] pos) (fun _ H Q => ∀ a, H a = none → Q (.ref a) (upd H a (ExO (.ref (He.ga X.K x)) a))) := by
  obtain ⟨c1, c2, _, _⟩ := c
  refine ⟨?_⟩
  intro pins s σ H Q I h
  refine wpAny_Call_Name_kw (ld_glob I hg g ?_ hdb)
  refine PySem.W.callWith_K0 I.kIn c2 ?_
  show wpAny _ _ (call (.ref (He.ga X.K x)) []) _ _ _
  obtain ⟨bm, N, nm, qn, bs, hdct, sn, sub, ab, col, dd, k0, k1, k2, k3, k5, mN, hC, hN, hni, T⟩ := exc_obj I.kIn c1
  refine wpAny_call_exc_subT F T hC hN hni ?_ (Nat.zero_le _)
  intro h' a hm
  have no := I.hok.gone hm.new
  obtain ⟨t, ht, _, _⟩ := hm.there
  exact ⟨.ref a, _, I.laidN hm.keeps hm.new no (exO_ok ht ⟨rfl, rfl⟩ rfl rfl rfl (by decide : 4 < 6)), rfl, h a no⟩
end
theorem isxC_ok {K : PySem.W.Frag} {C : Addr} (h : isxC K C = true) : Isx K C ∧ PySem.W.kitOne K (.ref C) (.type "ValueError") = some true := by
  obtain ⟨h1, h⟩ := He.ba h
  obtain ⟨h2, h⟩ := He.ba h
  obtain ⟨h3, h⟩ := He.ba h
  obtain ⟨h4, h⟩ := He.ba h
  obtain ⟨h5, h6⟩ := He.ba h
  exact ⟨⟨xfB_ok h1, He.eqO_ok h2, He.eqO_ok h3, of_decide_eq_true h4, of_decide_eq_true h5⟩, of_decide_eq_true h6⟩
theorem isx_of {K : PySem.W.Frag} {p : Str} {xs : List Str} (h : isxB K p xs = true) {x : Str} (hx : x ∈ xs) : Isx K (He.ga K x) ∧ PySem.W.kitOne K (.ref (He.ga K x)) (.type "ValueError") = some true ∧ PySem.W.kitOne K (.ref (He.ga K x)) (.ref (He.ga K p)) = some true ∧
    ∀ y ∈ xs, PySem.W.kitOne K (.ref (He.ga K x)) (.ref (He.ga K y)) = some (decide (y = x)) := by
  obtain ⟨_, h⟩ := He.ba h
  obtain ⟨h1, h⟩ := He.ba (List.all_eq_true.mp h x hx)
  obtain ⟨h2, h3⟩ := He.ba h
  obtain ⟨k1, k2⟩ := isxC_ok h1
  exact ⟨k1, k2, of_decide_eq_true h2, fun y hy => of_decide_eq_true (List.all_eq_true.mp h3 y hy)⟩
theorem isx_p {K : PySem.W.Frag} {p : Str} {xs : List Str} (h : isxB K p xs = true) : Isx K (He.ga K p) ∧ PySem.W.kitOne K (.ref (He.ga K p)) (.type "ValueError") = some true ∧ ∀ y ∈ xs, PySem.W.kitOne K (.ref (He.ga K p)) (.ref (He.ga K y)) = some false := by
  obtain ⟨h, _⟩ := He.ba h
  obtain ⟨h1, h2⟩ := He.ba h
  obtain ⟨k1, k2⟩ := isxC_ok h1
  exact ⟨k1, k2, fun y hy => of_decide_eq_true (List.all_eq_true.mp h2 y hy)⟩

end M

set_option Elab.async false
set_option linter.all false
set_option maxRecDepth 100000
set_option maxHeartbeats 2000000
namespace M
open PySem PySem.Spec PyProof.Rows L2

/-! ### calls and items, and their lines -/
def callD (c : Str × Int) : PyData := .tuple [.str c.1, .int c.2]
def CallOk (c : Str × Int) : Prop := NameOk c.1 ∧ 0 ≤ c.2 ∧ c.2 ≤ 8
inductive Itm where
  | step (h : Int) | call (h : Int) (c : Str × Int)
def itemD : Itm → PyData
  | .step h => .tuple [.str "step", .int h]
  | .call h c => .tuple [.str "call", .int h, callD c]
def ItemOk : Itm → Prop
  | .step h => 0 ≤ h ∧ h ≤ 1
  | .call h c => (0 ≤ h ∧ h ≤ 1) ∧ CallOk c
/-- a number of one digit -/
def dg (i : Int) : Str := ⟨#[48 + i.toNat]⟩
def callL (c : Str × Int) : Str := c.1 ++ (" " : Str) ++ dg c.2
def itemL : Itm → Str
  | .step h => ("step " : Str) ++ dg h
  | .call h c => ("call " : Str) ++ dg h ++ (" " : Str) ++ callL c
theorem dig_str {i : Int} (h : 0 ≤ i ∧ i ≤ 9) : Str.ofString (toString i) = dg i := by
  obtain ⟨k, rfl⟩ : ∃ k : _root_.Fin 10, i = ((k.val : Nat) : Int) := ⟨⟨i.toNat, by omega⟩, by show i = ((i.toNat : Nat) : Int); omega⟩
  revert k
  decide +kernel
theorem dig_log {i : Int} (h : 0 ≤ i ∧ i ≤ 9) : i.natAbs.log2 < 1920 := by
  obtain ⟨k, rfl⟩ : ∃ k : _root_.Fin 10, i = ((k.val : Nat) : Int) := ⟨⟨i.toNat, by omega⟩, by show i = ((i.toNat : Nat) : Int); omega⟩
  revert k
  decide +kernel
theorem dig_int {i : Int} (h : 0 ≤ i ∧ i ≤ 9) : PySem.intText? (dg i) = some i := by
  obtain ⟨k, rfl⟩ : ∃ k : _root_.Fin 10, i = ((k.val : Nat) : Int) := ⟨⟨i.toNat, by omega⟩, by show i = ((i.toNat : Nat) : Int); omega⟩
  revert k
  decide +kernel
theorem tl_dg (i : Int) : TL.tl (dg i) = [48 + i.toNat] := rfl
theorem len_dg (i : Int) : (dg i).length = 1 := rfl
theorem tl_len (s : Str) : s.length = (TL.tl s).length := TL.len_tl s
theorem len_app (a b : Str) : (a ++ b).length = a.length + b.length := by rw [tl_len, TL.tl_append, List.length_append, ← tl_len, ← tl_len]
theorem tl_sp : TL.tl (" " : Str) = [32] := by decide +kernel
theorem tl_nl : TL.tl ("\n" : Str) = [10] := by decide +kernel
theorem tl_step : TL.tl ("step" : Str) = [115, 116, 101, 112] := by decide +kernel
theorem tl_call : TL.tl ("call" : Str) = [99, 97, 108, 108] := by decide +kernel
theorem tl_step_ : TL.tl ("step " : Str) = [115, 116, 101, 112, 32] := by decide +kernel
theorem tl_call_ : TL.tl ("call " : Str) = [99, 97, 108, 108, 32] := by decide +kernel
theorem empty_app (a : Str) : Str.empty ++ a = a := TL.ext_tl (by rw [TL.tl_append]; rfl)
/-- words with blanks between -/
def wordsL : Itm → List Str
  | .step h => ["step", dg h]
  | .call h c => ["call", dg h, c.1, dg c.2]
theorem callL_words (c : Str × Int) : callL c = Txt.join (" " : Str) [c.1, dg c.2] := TL.ext_tl (by
  rw [TL.join_eq, TL.tl_join]
  show TL.tl (c.1 ++ (" " : Str) ++ dg c.2) = TL.tl c.1 ++ (TL.tl (" " : Str) ++ TL.tl (dg c.2))
  rw [TL.tl_append, TL.tl_append, List.append_assoc])
theorem itemL_words (t : Itm) : itemL t = Txt.join (" " : Str) (wordsL t) := TL.ext_tl (by
  rw [TL.join_eq, TL.tl_join]
  cases t with
  | step h =>
    show TL.tl (("step " : Str) ++ dg h) = TL.tl ("step" : Str) ++ (TL.tl (" " : Str) ++ TL.tl (dg h))
    rw [TL.tl_append, tl_step_, tl_step, tl_sp]
    rfl
  | call h c =>
    show TL.tl (("call " : Str) ++ dg h ++ (" " : Str) ++ (c.1 ++ (" " : Str) ++ dg c.2)) = TL.tl ("call" : Str) ++ (TL.tl (" " : Str) ++ (TL.tl (dg h) ++ (TL.tl (" " : Str) ++ (TL.tl c.1 ++ (TL.tl (" " : Str) ++ TL.tl (dg c.2))))))
    simp only [TL.tl_append, tl_call_, tl_call, tl_sp, List.append_assoc]
    rfl)
theorem name_free {s : Str} (h : NameOk s) {x : Nat} (hx : x < 97) : x ∉ TL.tl s := fun hm => by
  have := h.2.2 x hm
  omega
theorem dg_free {i : Int} (h : 0 ≤ i ∧ i ≤ 8) {x : Nat} (hx : x < 48) : x ∉ TL.tl (dg i) := fun hm => by
  rw [tl_dg, List.mem_singleton] at hm
  omega
theorem sp_all : (" " : Str).cps.all (· < 256) = true := by decide +kernel
theorem nl_all : ("\n" : Str).cps.all (· < 256) = true := by decide +kernel
theorem split_call {c : Str × Int} (h : CallOk c) : Txt.split (callL c) (" " : Str) = [c.1, dg c.2] := by
  rw [callL_words]
  refine TL.split_join tl_sp sp_all (by simp) fun p hp => ?_
  rcases List.mem_cons.mp hp with rfl | hp
  · exact name_free h.1 (by decide)
  · rw [List.mem_singleton.mp hp]
    exact dg_free h.2 (by decide)
theorem split_item {t : Itm} (h : ItemOk t) : Txt.split (itemL t) (" " : Str) = wordsL t := by
  rw [itemL_words]
  cases t with
  | step hd =>
    refine TL.split_join tl_sp sp_all (by simp [wordsL]) fun p hp => ?_
    rcases List.mem_cons.mp hp with rfl | hp
    · rw [tl_step]; decide
    · rw [List.mem_singleton.mp hp]
      exact dg_free ⟨h.1, by have := h.2; omega⟩ (by decide)
  | call hd c =>
    refine TL.split_join tl_sp sp_all (by simp [wordsL]) fun p hp => ?_
    rcases List.mem_cons.mp hp with rfl | hp
    · rw [tl_call]; decide
    · rcases List.mem_cons.mp hp with rfl | hp
      · exact dg_free ⟨h.1.1, by have := h.1.2; omega⟩ (by decide)
      · rcases List.mem_cons.mp hp with rfl | hp
        · exact name_free h.2.1 (by decide)
        · rw [List.mem_singleton.mp hp]
          exact dg_free h.2.2 (by decide)
theorem callL_line {c : Str × Int} (h : CallOk c) : 10 ∉ TL.tl (callL c) ∧ 1 ≤ (callL c).length ∧ (callL c).length ≤ 10 := by
  have n1 := name_free h.1 (x := 10) (by decide)
  have n2 := dg_free h.2 (x := 10) (by decide)
  refine ⟨?_, ?_⟩
  · unfold callL
    rw [TL.tl_append, TL.tl_append, tl_sp]
    intro hm
    rcases List.mem_append.mp hm with hm | hm
    · rcases List.mem_append.mp hm with hm | hm
      · exact n1 hm
      · exact absurd hm (by decide)
    · exact n2 hm
  · unfold callL
    have l1 : (" " : Str).length = 1 := by decide +kernel
    have a := h.1.1
    have b := h.1.2.1
    rw [len_app, len_app, len_dg, l1]
    omega
theorem itemL_line {t : Itm} (h : ItemOk t) : 10 ∉ TL.tl (itemL t) ∧ 1 ≤ (itemL t).length ∧ (itemL t).length ≤ 20 := by
  have l1 : (" " : Str).length = 1 := by decide +kernel
  cases t with
  | step hd =>
    have n2 := dg_free (i := hd) ⟨h.1, by have := h.2; omega⟩ (x := 10) (by decide)
    have l5 : ("step " : Str).length = 5 := by decide +kernel
    refine ⟨?_, ?_⟩
    · unfold itemL
      rw [TL.tl_append, tl_step_]
      intro hm
      rcases List.mem_append.mp hm with hm | hm
      · exact absurd hm (by decide)
      · exact n2 hm
    · unfold itemL
      rw [len_app, len_dg, l5]
      decide
  | call hd c =>
    have n2 := dg_free (i := hd) ⟨h.1.1, by have := h.1.2; omega⟩ (x := 10) (by decide)
    obtain ⟨n3, l3, l4⟩ := callL_line h.2
    have l5 : ("call " : Str).length = 5 := by decide +kernel
    refine ⟨?_, ?_⟩
    · unfold itemL
      rw [TL.tl_append, TL.tl_append, TL.tl_append, tl_call_, tl_sp]
      intro hm
      rcases List.mem_append.mp hm with hm | hm
      · rcases List.mem_append.mp hm with hm | hm
        · rcases List.mem_append.mp hm with hm | hm
          · exact absurd hm (by decide)
          · exact n2 hm
        · exact absurd hm (by decide)
      · exact n3 hm
    · unfold itemL
      rw [len_app, len_app, len_app, len_dg, l5, l1]
      omega
theorem callD_noL (c : Str × Int) : NoL (callD c) := .tup fun d h => by
  simp at h
  rcases h with rfl | rfl
  · exact .str _
  · exact .int _
theorem itemD_noL (t : Itm) : NoL (itemD t) := by
  cases t with
  | step h =>
    refine .tup fun d hd => ?_
    simp at hd
    rcases hd with rfl | rfl
    · exact .str _
    · exact .int _
  | call h c =>
    refine .tup fun d hd => ?_
    simp at hd
    rcases hd with rfl | rfl | rfl
    · exact .str _
    · exact .int _
    · exact callD_noL c
section
variable {P : Program} {w : World} {K : PySem.W.Frag} {mg : Str → Option Value} {base : Heap}
def spNameL : Sp := fun vs H Q _ => ∃ (p : Addr), vs = [.ref p] ∧ PoolAt H p ∧ ∀ (s : Str) (H' : Hp), But p H H' → PoolAt H' p → NameOk s → Q (.str s) H'
def spCallD (K : PySem.W.Frag) : Sp := fun vs H Q _ => ∃ (p : Addr), vs = [.ref p] ∧ PoolAt H p ∧ ∀ (t : Addr) (c : Str × Int) (H' : Hp), But p H H' → PoolAt H' p → Dp K H' (.ref t) (callD c) → CallOk c → Q (.ref t) H'
def spItemDr (K : PySem.W.Frag) : Sp := fun vs H Q _ => ∃ (p : Addr), vs = [.ref p] ∧ PoolAt H p ∧ ∀ (t : Addr) (c : Itm) (H' : Hp), But p H H' → PoolAt H' p → Dp K H' (.ref t) (itemD c) → ItemOk c → Q (.ref t) H'
def spCallLn (K : PySem.W.Frag) : Sp := fun vs H Q _ => ∃ (v : V) (c : Str × Int), vs = [v] ∧ Dp K H v (callD c) ∧ CallOk c ∧ Q (.str (callL c)) H
def spItemLn (K : PySem.W.Frag) : Sp := fun vs H Q _ => ∃ (v : V) (c : Itm), vs = [v] ∧ Dp K H v (itemD c) ∧ ItemOk c ∧ Q (.str (itemL c)) H
end

end M

set_option Elab.async false
set_option linter.all false
set_option maxRecDepth 100000
set_option maxHeartbeats 2000000
namespace M
open PySem PySem.Spec PyProof.Rows L2

/-! ### a text cut at one sign -/
theorem spl1_ne (c : Nat) : ∀ (l acc : List Nat), TL.spl [c] 0 acc l ≠ []
  | [], acc => by
    rw [TL.spl_nil]
    exact List.cons_ne_nil _ _
  | x :: r, acc => by
    by_cases e : x = c
    · subst e
      rw [TL.spl_hit (by simp [TL.pre])]
      exact List.cons_ne_nil _ _
    · rw [TL.spl_miss (TL.pre_of_head [] r e)]
      exact spl1_ne c r _
theorem joinL_cons {s p : List Nat} {ps : List (List Nat)} (h : ps ≠ []) : TL.joinL s (p :: ps) = p ++ (s ++ TL.joinL s ps) := by
  cases ps with
  | nil => exact absurd rfl h
  | cons q r => rfl
theorem spl1_join (c : Nat) : ∀ (l acc : List Nat), TL.joinL [c] (TL.spl [c] 0 acc l) = acc ++ l
  | [], acc => by
    rw [TL.spl_nil, List.append_nil]
    rfl
  | x :: r, acc => by
    by_cases e : x = c
    · subst e
      rw [TL.spl_hit (by simp [TL.pre]), show ([x] : List Nat).length - 1 = 0 from rfl, joinL_cons (spl1_ne _ _ _), spl1_join x r []]
      rfl
    · rw [TL.spl_miss (TL.pre_of_head [] r e), spl1_join c r, List.append_assoc]
      rfl
theorem spl1_free (c : Nat) : ∀ (l acc : List Nat), c ∉ acc → ∀ p ∈ TL.spl [c] 0 acc l, c ∉ p
  | [], acc, h, p, hp => by
    rw [TL.spl_nil, List.mem_singleton] at hp
    rwa [hp]
  | x :: r, acc, h, p, hp => by
    by_cases e : x = c
    · subst e
      rw [TL.spl_hit (by simp [TL.pre])] at hp
      rcases List.mem_cons.mp hp with hp | hp
      · rwa [hp]
      · exact spl1_free x r [] (fun z => nomatch z) p hp
    · rw [TL.spl_miss (TL.pre_of_head [] r e)] at hp
      refine spl1_free c r _ (fun z => ?_) p hp
      rcases List.mem_append.mp z with z | z
      · exact h z
      · exact e (List.mem_singleton.mp z).symm
theorem spl1_sub (c : Nat) : ∀ (l acc : List Nat), ∀ p ∈ TL.spl [c] 0 acc l, p.length ≤ acc.length + l.length ∧ ∀ x ∈ p, x ∈ acc ∨ x ∈ l
  | [], acc, p, hp => by
    rw [TL.spl_nil, List.mem_singleton] at hp
    subst hp
    exact ⟨Nat.le_refl _, fun x hx => .inl hx⟩
  | y :: r, acc, p, hp => by
    by_cases e : y = c
    · subst e
      rw [TL.spl_hit (by simp [TL.pre])] at hp
      rcases List.mem_cons.mp hp with hp | hp
      · subst hp
        exact ⟨Nat.le_add_right _ _, fun x hx => .inl hx⟩
      · obtain ⟨h1, h2⟩ := spl1_sub y r [] p hp
        rw [List.length_nil] at h1
        refine ⟨by rw [List.length_cons]; omega, fun x hx => ?_⟩
        rcases h2 x hx with z | z
        · cases z
        · exact .inr (List.mem_cons_of_mem _ z)
    · rw [TL.spl_miss (TL.pre_of_head [] r e)] at hp
      obtain ⟨h1, h2⟩ := spl1_sub c r _ p hp
      rw [List.length_append, List.length_singleton] at h1
      refine ⟨by rw [List.length_cons]; omega, fun x hx => ?_⟩
      rcases h2 x hx with z | z
      · rcases List.mem_append.mp z with z | z
        · exact .inl z
        · exact .inr (by rw [List.mem_singleton.mp z]; exact List.mem_cons_self)
      · exact .inr (List.mem_cons_of_mem _ z)
theorem spl1_len (c : Nat) : ∀ (l acc : List Nat), (TL.spl [c] 0 acc l).length ≤ l.length + 1
  | [], acc => by
    rw [TL.spl_nil]
    exact Nat.le_refl _
  | y :: r, acc => by
    by_cases e : y = c
    · subst e
      rw [TL.spl_hit (by simp [TL.pre]), List.length_cons, List.length_cons]
      exact Nat.succ_le_succ (spl1_len y r [])
    · rw [TL.spl_miss (TL.pre_of_head [] r e), List.length_cons]
      exact Nat.le_succ_of_le (spl1_len c r _)
/-- a text cut at the one sign of y -/
theorem split_one {x y : Str} {c : Nat} (hy : TL.tl y = [c]) (h : y.cps.all (· < 256) = true) : (Txt.split x y).map TL.tl = TL.spl [c] 0 [] (TL.tl x) := by
  have e := TL.split_spl x y (by rw [hy]; exact List.cons_ne_nil _ _) (TL.kind_ok h)
  rwa [hy] at e
theorem split_back {x y : Str} {c : Nat} (hy : TL.tl y = [c]) (h : y.cps.all (· < 256) = true) : Txt.join y (Txt.split x y) = x := by
  refine TL.ext_tl ?_
  rw [TL.join_eq, TL.tl_join, split_one hy h, hy, spl1_join]
  rfl
theorem split_free {x y : Str} {c : Nat} (hy : TL.tl y = [c]) (h : y.cps.all (· < 256) = true) {p : Str} (hp : p ∈ Txt.split x y) : c ∉ TL.tl p ∧ p.length ≤ x.length ∧ ∀ z ∈ TL.tl p, z ∈ TL.tl x := by
  have m : TL.tl p ∈ TL.spl [c] 0 [] (TL.tl x) := by
    rw [← split_one hy h]
    exact List.mem_map_of_mem hp
  obtain ⟨h1, h2⟩ := spl1_sub c (TL.tl x) [] _ m
  refine ⟨spl1_free c _ [] (fun z => nomatch z) _ m, by rw [tl_len, tl_len x]; rw [List.length_nil] at h1; omega, fun z hz => ?_⟩
  rcases h2 z hz with q | q
  · cases q
  · exact q
theorem split_many {x y : Str} {c : Nat} (hy : TL.tl y = [c]) (h : y.cps.all (· < 256) = true) : 1 ≤ (Txt.split x y).length ∧ (Txt.split x y).length ≤ x.length + 1 := by
  have e : (Txt.split x y).length = (TL.spl [c] 0 [] (TL.tl x)).length := by rw [← split_one hy h, List.length_map]
  rw [e, tl_len]
  exact ⟨List.length_pos_iff.mpr (spl1_ne _ _ _), spl1_len _ _ _⟩

end M

set_option Elab.async false
set_option linter.all false
set_option maxRecDepth 100000
set_option maxHeartbeats 2000000
namespace M
open PySem PySem.Spec PyProof.Rows L2

/-! ### data of a known size and depth -/
def atomOk : PyData → Prop
  | .str s => s.length ≤ 1000000 ∧ PyData.strOk s = true
  | .none => True
  | .bool _ => True
  | .int _ => True
  | _ => False
def fit : Nat → PyData → Prop
  | 0, d => atomOk d
  | n + 1, .list ds => ds.length ≤ 100000 ∧ ∀ d ∈ ds, fit n d
  | n + 1, .tuple ds => ds.length ≤ 100000 ∧ ∀ d ∈ ds, fit n d
  | _ + 1, d => atomOk d
theorem atom_lay : ∀ {d : PyData}, atomOk d → d.canLay0 = true ∧ d.depth = 0 ∧ PyData.eqv d d = true
  | .str s, h => ⟨by rw [PyData.canLay0]; exact h.2, by rw [PyData.depth], by simp [PyData.eqv]⟩
  | .none, _ => ⟨by rw [PyData.canLay0], by rw [PyData.depth], by rw [PyData.eqv]⟩
  | .bool _, _ => ⟨by rw [PyData.canLay0], by rw [PyData.depth], by simp [PyData.eqv]⟩
  | .int _, _ => ⟨by rw [PyData.canLay0], by rw [PyData.depth], by simp [PyData.eqv]⟩
theorem fit_lay : ∀ {n : Nat} {d : PyData}, fit n d → d.canLay0 = true ∧ d.depth ≤ n ∧ PyData.eqv d d = true := by
  intro n
  induction n with
  | zero =>
    intro d h
    obtain ⟨a, b, c⟩ := atom_lay h
    exact ⟨a, by omega, c⟩
  | succ n ih =>
    intro d h
    have z : ∀ ds : List PyData, (∀ d ∈ ds, fit n d) → PyData.canLayAll0 ds = true ∧ PyData.depthAll ds ≤ n ∧ PyData.eqvAll ds ds = true := by
      intro ds
      induction ds with
      | nil => exact fun _ => ⟨by rw [PyData.canLayAll0], by rw [PyData.depthAll]; exact Nat.zero_le _, by rw [PyData.eqvAll]⟩
      | cons d r ih2 =>
        intro h
        obtain ⟨a1, a2, a3⟩ := ih (h d List.mem_cons_self)
        obtain ⟨b1, b2, b3⟩ := ih2 fun x hx => h x (List.mem_cons_of_mem _ hx)
        exact ⟨by rw [PyData.canLayAll0, a1, b1]; rfl, by rw [PyData.depthAll]; exact Nat.max_le.mpr ⟨a2, b2⟩, by rw [PyData.eqvAll, a3, b3]; rfl⟩
    cases d with
    | list ds =>
      obtain ⟨a, b, c⟩ := z ds h.2
      exact ⟨by rw [PyData.canLay0]; exact a, by rw [PyData.depth]; omega, by rw [PyData.eqv]; exact c⟩
    | tuple ds =>
      obtain ⟨a, b, c⟩ := z ds h.2
      exact ⟨by rw [PyData.canLay0]; exact a, by rw [PyData.depth]; omega, by rw [PyData.eqv]; exact c⟩
    | dict _ => exact h.elim
    | str s =>
      obtain ⟨a, b, c⟩ := atom_lay (d := .str s) h
      exact ⟨a, by omega, c⟩
    | none =>
      obtain ⟨a, b, c⟩ := atom_lay (d := .none) h
      exact ⟨a, by omega, c⟩
    | bool y =>
      obtain ⟨a, b, c⟩ := atom_lay (d := .bool y) h
      exact ⟨a, by omega, c⟩
    | int y =>
      obtain ⟨a, b, c⟩ := atom_lay (d := .int y) h
      exact ⟨a, by omega, c⟩
theorem fit_shaped {n : Nat} {d : PyData} (hn : n ≤ 60) (h : fit n d) : SeqAt.shaped d = true := by
  obtain ⟨a, b, _⟩ := fit_lay h
  unfold SeqAt.shaped
  rw [Bool.and_eq_true]
  exact ⟨a, decide_eq_true (by omega)⟩
theorem fit_str {n : Nat} {s : Str} (h : fit n (.str s)) : s.length ≤ 1000000 ∧ PyData.strOk s = true := by
  cases n <;> exact h
def isStr (x : Str) : PyData → Bool
  | .str s => s == x
  | _ => false
theorem eqv_str {d : PyData} {x : Str} : PyData.eqv d (.str x) = isStr x d := by
  cases d <;> simp [PyData.eqv, isStr]
/-! ### what is good -/
instance (s : Str) : Decidable (NameOk s) := by
  unfold NameOk
  infer_instance
def asName : PyData → Option Str
  | .str s => if NameOk s then some s else none
  | _ => none
def inR (lo hi : Int) : PyData → Bool
  | .int i => decide (lo ≤ i) && decide (i ≤ hi)
  | _ => false
def isTup (n : Int) : PyData → Bool
  | .tuple ds => decide ((ds.length : Int) = n)
  | _ => false
def asCall : PyData → Option (Str × Int)
  | .tuple [.str s, .int i] => if NameOk s ∧ 0 ≤ i ∧ i ≤ 8 then some (s, i) else none
  | _ => none
def asItem : PyData → Option Itm
  | .tuple [.str s, .int h] => if s = "step" ∧ 0 ≤ h ∧ h ≤ 1 then some (.step h) else none
  | .tuple [.str s, .int h, c] => if s = "call" ∧ 0 ≤ h ∧ h ≤ 1 then (asCall c).map (.call h) else none
  | _ => none
theorem asCall_ok {d : PyData} {c : Str × Int} (h : asCall d = some c) : d = callD c ∧ CallOk c := by
  unfold asCall at h
  split at h
  · split at h
    · rename_i o
      cases h
      exact ⟨rfl, o.1, o.2⟩
    · cases h
  · cases h
theorem asCall_of {c : Str × Int} (h : CallOk c) : asCall (callD c) = some c := if_pos ⟨h.1, h.2⟩
theorem asItem_ok {d : PyData} {t : Itm} (h : asItem d = some t) : d = itemD t ∧ ItemOk t := by
  unfold asItem at h
  split at h
  · split at h
    · rename_i o
      cases h
      obtain ⟨rfl, o⟩ := o
      exact ⟨rfl, o⟩
    · cases h
  · split at h
    · rename_i o
      obtain ⟨c, hc, rfl⟩ := Option.map_eq_some_iff.mp h
      obtain ⟨rfl, o2⟩ := asCall_ok hc
      obtain ⟨rfl, o⟩ := o
      exact ⟨rfl, o, o2⟩
    · cases h
  · cases h
theorem asItem_of {t : Itm} (h : ItemOk t) : asItem (itemD t) = some t := by
  cases t with
  | step i => exact if_pos ⟨rfl, h⟩
  | call i c =>
    show (if _ then (asCall (callD c)).map (Itm.call i) else none) = _
    rw [if_pos ⟨rfl, h.1⟩, asCall_of h.2]
    rfl
/-! ### defs that judge any data -/
theorem sign_gt {a c : Nat} (h : c < a) : (!decide (([c] : List Nat) < [a])) = false := by
  have : ([c] : List Nat) < [a] := by
    rw [List.cons_lt_cons_iff]
    exact .inl h
  rw [decide_eq_true this]
  rfl
theorem if_gt_of {c : Bool} {A B : Prop} (hc : c = false) (h : A) : if (!c) = true then A else B := by
  rw [hc]
  exact iteT h
theorem if_gt2_of {c : Bool} {A B : Prop} (hc : c = false) (h : B) : if c = true then A else B := by
  rw [hc]
  exact iteF h
namespace G
section
variable {P : Program} {w : World} {K : PySem.W.Frag} {mg : Str → Option Value} {base : Heap}
def spWithin (K : PySem.W.Frag) : Sp := fun vs H Q _ => ∃ (v : V) (d : PyData) (lo hi : Int), vs = [v, .int lo, .int hi] ∧ Dp K H v d ∧ Q (.bl (inR lo hi d)) H
def spTuple (K : PySem.W.Frag) : Sp := fun vs H Q _ => ∃ (v : V) (d : PyData) (n : Int), vs = [v, .int n] ∧ Dp K H v d ∧ Q (.bl (isTup n d)) H
theorem ca_is_tuple (T : Txt w K mg) : Ca P w K mg base 1 "is_tuple" (spTuple K) := by
  refine ca_of (N := ["value", "length"]) (ps := ["value", "length"]) T.f_is_tuple T.g_is_tuple ⟨rfl, rfl, rfl, by decide +kernel, rfl, by decide +kernel, by decide +kernel⟩ (fun _ _ _ _ _ _ us hl => match us, hl with | [_, _], _ => rfl)
    (fun vs H Q E h => by obtain ⟨v, d, n, rfl, hd, q⟩ := h; rfl) (fun cdv A outer s H vs Q E hr h => ?_)
  have nd : (["value", "length"] : List Str).Nodup := by decide +kernel
  obtain ⟨v, d, n, rfl, hd, q⟩ := h
  refine ⟨_, (pss_one (ps_ret (pe_and (pe_is .tuple T.b_isinstance (pv 0) T.b_tuple boot_tuple) (pe_one (pe_cmpR op_eq (pe_callB call_len_seq (by rfl) T.b_len PySem.boot_len (pa_cons (pv 0) pa_nil)) (pv 1) (nomark _)))))), ?_⟩
  have kd := dp_kd hd
  refine ⟨_, rfl, _, _, rfl, kd, _, rfl, ?_⟩
  cases hd with
  | tup h1 h2 =>
    refine iteT ⟨_, rfl, _, _, rfl, .inr h1, _, rfl, rfl, ?_⟩
    rename_i a xs ds
    have e : (decide (V.int (xs.length : Int) = V.int n)) = decide ((ds.length : Int) = n) := by rw [dps_len h2]; simp
    rw [e]
    exact q
  | _ => exact iteF q
def spName (K : PySem.W.Frag) : Sp := fun vs H Q _ => ∃ (v : V) (d : PyData), vs = [v] ∧ Dp K H v d ∧ (∀ s, d = .str s → s.length ≤ 1000000) ∧ Q (.bl (asName d).isSome) H
end
end G

end M

set_option Elab.async false
set_option linter.all false
set_option maxRecDepth 100000
set_option maxHeartbeats 2000000
namespace M
open PySem PySem.Spec PyProof.Rows L2

theorem tup_len {n : Int} {d : PyData} (h : isTup n d = true) : ∃ ds, d = .tuple ds ∧ (ds.length : Int) = n := by
  cases d with
  | tuple ds => exact ⟨ds, rfl, of_decide_eq_true h⟩
  | _ => cases h
theorem two_of {α : Type} {l : List α} (h : (l.length : Int) = 2) : ∃ a b, l = [a, b] := by
  match l, h with
  | [a, b], _ => exact ⟨a, b, rfl⟩
  | [], h => exact absurd h (by decide : ¬ (((0 : Nat) : Int) = 2))
  | [a], h => exact absurd h (by decide : ¬ (((1 : Nat) : Int) = 2))
  | _ :: _ :: _ :: _, h =>
    rw [List.length_cons, List.length_cons, List.length_cons] at h
    omega
theorem three_of {α : Type} {l : List α} (h : (l.length : Int) = 3) : ∃ a b c, l = [a, b, c] := by
  match l, h with
  | [a, b, c], _ => exact ⟨a, b, c, rfl⟩
  | [], h => exact absurd h (by decide : ¬ (((0 : Nat) : Int) = 3))
  | [a], h => exact absurd h (by decide : ¬ (((1 : Nat) : Int) = 3))
  | [a, b], h => exact absurd h (by decide : ¬ (((2 : Nat) : Int) = 3))
  | _ :: _ :: _ :: _ :: _, h =>
    rw [List.length_cons, List.length_cons, List.length_cons, List.length_cons] at h
    omega
theorem asCall_two (a b : PyData) : (asCall (.tuple [a, b])).isSome = ((asName a).isSome && inR 0 8 b) := by
  cases a with
  | str s =>
    cases b with
    | int i =>
      show (if NameOk s ∧ 0 ≤ i ∧ i ≤ 8 then some (s, i) else none).isSome = ((if NameOk s then some s else none).isSome && (decide (0 ≤ i) && decide (i ≤ 8)))
      by_cases h : NameOk s
      · by_cases h2 : 0 ≤ i ∧ i ≤ 8
        · rw [if_pos ⟨h, h2⟩, if_pos h, decide_eq_true h2.1, decide_eq_true h2.2]
          rfl
        · rw [if_neg (fun z => h2 z.2), if_pos h]
          by_cases h3 : 0 ≤ i
          · rw [decide_eq_true h3, decide_eq_false (fun z => h2 ⟨h3, z⟩)]
            rfl
          · rw [decide_eq_false h3]
            rfl
      · rw [if_neg (fun z => h z.1), if_neg h]
        rfl
    | _ => exact (Bool.and_false _).symm
  | _ => rfl
theorem asCall_not {d : PyData} (h : isTup 2 d = false) : asCall d = none := by
  cases e : asCall d with
  | none => rfl
  | some c =>
    obtain ⟨rfl, _⟩ := asCall_ok e
    cases h
theorem fit_two {n : Nat} {a b : PyData} (h : fit n (.tuple [a, b])) : ∃ m, n = m + 1 ∧ fit m a ∧ fit m b := by
  cases n with
  | zero => exact h.elim
  | succ m => exact ⟨m, rfl, h.2 a List.mem_cons_self, h.2 b (List.mem_cons_of_mem _ List.mem_cons_self)⟩
theorem fit_three {n : Nat} {a b c : PyData} (h : fit n (.tuple [a, b, c])) : ∃ m, n = m + 1 ∧ fit m a ∧ fit m b ∧ fit m c := by
  cases n with
  | zero => exact h.elim
  | succ m => exact ⟨m, rfl, h.2 a List.mem_cons_self, h.2 b (List.mem_cons_of_mem _ List.mem_cons_self), h.2 c (List.mem_cons_of_mem _ (List.mem_cons_of_mem _ List.mem_cons_self))⟩
theorem asItem_two (a b : PyData) : (asItem (.tuple [a, b])).isSome = (isStr "step" a && inR 0 1 b) := by
  cases a with
  | str s =>
    cases b with
    | int i =>
      show (if s = "step" ∧ 0 ≤ i ∧ i ≤ 1 then some (Itm.step i) else none).isSome = ((s == "step") && (decide (0 ≤ i) && decide (i ≤ 1)))
      by_cases h : s = "step"
      · rw [beq_iff_eq.mpr h]
        by_cases h2 : 0 ≤ i ∧ i ≤ 1
        · rw [if_pos ⟨h, h2⟩, decide_eq_true h2.1, decide_eq_true h2.2]
          rfl
        · rw [if_neg (fun z => h2 z.2)]
          by_cases h3 : 0 ≤ i
          · rw [decide_eq_true h3, decide_eq_false (fun z => h2 ⟨h3, z⟩)]
            rfl
          · rw [decide_eq_false h3]
            rfl
      · rw [if_neg (fun z => h z.1), beq_eq_false_iff_ne.mpr h]
        rfl
    | _ => exact (Bool.and_false _).symm
  | _ => rfl
theorem asItem_three (a b c : PyData) : (asItem (.tuple [a, b, c])).isSome = (isStr "call" a && (inR 0 1 b && (asCall c).isSome)) := by
  cases a with
  | str s =>
    cases b with
    | int i =>
      show (if s = "call" ∧ 0 ≤ i ∧ i ≤ 1 then (asCall c).map (Itm.call i) else none).isSome = ((s == "call") && ((decide (0 ≤ i) && decide (i ≤ 1)) && (asCall c).isSome))
      by_cases h : s = "call"
      · rw [beq_iff_eq.mpr h]
        by_cases h2 : 0 ≤ i ∧ i ≤ 1
        · rw [if_pos ⟨h, h2⟩, decide_eq_true h2.1, decide_eq_true h2.2, Option.isSome_map]
          rfl
        · rw [if_neg (fun z => h2 z.2)]
          by_cases h3 : 0 ≤ i
          · rw [decide_eq_true h3, decide_eq_false (fun z => h2 ⟨h3, z⟩)]
            rfl
          · rw [decide_eq_false h3]
            rfl
      · rw [if_neg (fun z => h z.1), beq_eq_false_iff_ne.mpr h]
        rfl
    | _ =>
      show false = (_ && (false && _))
      rw [Bool.false_and, Bool.and_false]
  | _ => rfl
theorem asItem_not {d : PyData} (h : isTup 2 d = false) (h3 : isTup 3 d = false) : asItem d = none := by
  cases e : asItem d with
  | none => rfl
  | some t =>
    obtain ⟨rfl, _⟩ := asItem_ok e
    cases t with
    | step i => cases h
    | call i c => cases h3
/-! ### one digit -/
def digI (w : Str) : Option Int := match TL.tl w with
  | [c] => if 48 ≤ c ∧ c ≤ 57 then some ((c : Int) - 48) else none
  | _ => none
theorem digI_ok {w : Str} {i : Int} (h : digI w = some i) : w = dg i ∧ 0 ≤ i ∧ i ≤ 9 := by
  unfold digI at h
  split at h
  · rename_i c e
    split at h
    · rename_i o
      cases h
      refine ⟨TL.ext_tl ?_, by omega, by omega⟩
      rw [e, tl_dg]
      congr 1
      omega
    · cases h
  · cases h
theorem digI_dg {i : Int} (h : 0 ≤ i ∧ i ≤ 9) : digI (dg i) = some i := by
  unfold digI
  rw [tl_dg]
  show (if 48 ≤ 48 + i.toNat ∧ 48 + i.toNat ≤ 57 then some (((48 + i.toNat : Nat) : Int) - 48) else none) = some i
  rw [if_pos (by omega)]
  congr 1
  omega
theorem int_two : ∀ a : _root_.Fin 9, ∀ b : _root_.Fin 10, PySem.intText? (⟨#[49 + a.val, 48 + b.val]⟩ : Str) = some (((10 * (a.val + 1) + b.val : Nat) : Nat) : Int) := by decide +kernel
theorem int_three : ∀ a : _root_.Fin 9, ∀ b : _root_.Fin 10, ∀ c : _root_.Fin 10, PySem.intText? (⟨#[49 + a.val, 48 + b.val, 48 + c.val]⟩ : Str) = some (((100 * (a.val + 1) + 10 * b.val + c.val : Nat) : Nat) : Int) := by decide +kernel
namespace G
section
variable {P : Program} {w : World} {K : PySem.W.Frag} {mg : Str → Option Value} {base : Heap}
def spIsCall (K : PySem.W.Frag) : Sp := fun vs H Q _ => ∃ (v : V) (d : PyData) (n : Nat), vs = [v] ∧ Dp K H v d ∧ fit n d ∧ Q (.bl (asCall d).isSome) H
def spIsItem (K : PySem.W.Frag) : Sp := fun vs H Q _ => ∃ (v : V) (d : PyData) (n : Nat), vs = [v] ∧ Dp K H v d ∧ fit n d ∧ n ≤ 50 ∧ Q (.bl (asItem d).isSome) H
end
end G

end M

set_option Elab.async false
set_option linter.all false
set_option maxRecDepth 100000
set_option maxHeartbeats 2000000
namespace M
open PySem PySem.Spec PyProof.Rows L2

/-- what number_in may say of a word -/
def NumOf (w : Str) (i : Int) : Prop := digI w = some i ∨ (digI w = none ∧ (i = -1 ∨ 10 ≤ i))
theorem digI_len {w : Str} (h : w.length ≠ 1) : digI w = none := by
  cases e : digI w with
  | none => rfl
  | some i =>
    obtain ⟨rfl, _⟩ := digI_ok e
    exact absurd rfl h
theorem digI_bad {w : Str} {c : Nat} (hc : c ∈ TL.tl w) (h : ¬ (48 ≤ c ∧ c ≤ 57)) : digI w = none := by
  cases e : digI w with
  | none => rfl
  | some i =>
    obtain ⟨rfl, h0, h9⟩ := digI_ok e
    rw [tl_dg, List.mem_singleton] at hc
    exact absurd ⟨by omega, by omega⟩ h
theorem num_fin {w : Str} (h1 : 1 ≤ w.length) (h3 : w.length ≤ 3) (hd : ∀ c ∈ TL.tl w, 48 ≤ c ∧ c ≤ 57) (h0 : 1 < w.length → (TL.tl w).head? ≠ some 48) : ∃ v, PySem.intText? w = some v ∧ NumOf w v := by
  have hw : w = ⟨(TL.tl w).toArray⟩ := (TL.mk_tl w).symm
  rw [tl_len] at h1 h3 h0
  generalize TL.tl w = l at hw h1 h3 hd h0
  subst hw
  match l, h1, h3, hd, h0 with
  | [a], _, _, hd, _ =>
    have ha := hd a List.mem_cons_self
    have e : (⟨[a].toArray⟩ : Str) = dg ((a : Int) - 48) := TL.ext_tl (by
      rw [tl_dg]
      show [a] = _
      congr 1
      omega)
    rw [e]
    exact ⟨_, dig_int ⟨by omega, by omega⟩, .inl (digI_dg ⟨by omega, by omega⟩)⟩
  | [a, b], _, _, hd, h0 =>
    have ha := hd a List.mem_cons_self
    have hb := hd b (List.mem_cons_of_mem _ List.mem_cons_self)
    have n0 : a ≠ 48 := fun z => h0 (by show 1 < 2; decide) (by rw [z]; rfl)
    have k := int_two ⟨a - 49, by omega⟩ ⟨b - 48, by omega⟩
    have e : (⟨#[49 + (a - 49), 48 + (b - 48)]⟩ : Str) = ⟨[a, b].toArray⟩ := by
      rw [show 49 + (a - 49) = a by omega, show 48 + (b - 48) = b by omega]
    dsimp only at k
    rw [e] at k
    refine ⟨_, k, .inr ⟨digI_len (by show (2 : Nat) ≠ 1; decide), .inr ?_⟩⟩
    omega
  | [a, b, c], _, _, hd, h0 =>
    have ha := hd a List.mem_cons_self
    have hb := hd b (List.mem_cons_of_mem _ List.mem_cons_self)
    have hc := hd c (List.mem_cons_of_mem _ (List.mem_cons_of_mem _ List.mem_cons_self))
    have n0 : a ≠ 48 := fun z => h0 (by show 1 < 3; decide) (by rw [z]; rfl)
    have k := int_three ⟨a - 49, by omega⟩ ⟨b - 48, by omega⟩ ⟨c - 48, by omega⟩
    have e : (⟨#[49 + (a - 49), 48 + (b - 48), 48 + (c - 48)]⟩ : Str) = ⟨[a, b, c].toArray⟩ := by
      rw [show 49 + (a - 49) = a by omega, show 48 + (b - 48) = b by omega, show 48 + (c - 48) = c by omega]
    dsimp only at k
    rw [e] at k
    refine ⟨_, k, .inr ⟨digI_len (by show (3 : Nat) ≠ 1; decide), .inr ?_⟩⟩
    omega
  | [], h, _, _, _ => exact absurd h (by show ¬ (1 ≤ 0); decide)
  | _ :: _ :: _ :: _ :: _, _, h, _, _ =>
    rw [List.length_cons, List.length_cons, List.length_cons, List.length_cons] at h
    omega
theorem head_at {w : Str} (h : 1 ≤ w.length) : ∃ c r, TL.tl w = c :: r ∧ atI w.cps.toList 0 = some c := by
  rw [tl_len] at h
  cases e : TL.tl w with
  | nil =>
    rw [e] at h
    exact absurd h (by decide)
  | cons c r => exact ⟨c, r, rfl, atI_nat (j := 0) (by show (TL.tl w)[0]? = _; rw [e]; rfl)⟩
namespace G
section
variable {P : Program} {w : World} {K : PySem.W.Frag} {mg : Str → Option Value} {base : Heap}
def spNum : Sp := fun vs H Q _ => ∃ (s : Str), vs = [.str s] ∧ s.length ≤ 1000000 ∧ ∀ i, NumOf s i → Q (.int i) H
end
end G

end M

set_option Elab.async false
set_option linter.all false
set_option maxRecDepth 100000
set_option maxHeartbeats 2000000
namespace M
open PySem PySem.Spec PyProof.Rows L2

/-! ### displays of told data -/
section
variable {X : Cx} {K : PySem.W.Frag} {B : Hp} {e : Expr} {es : List Expr} {pos : Pos} {d : PyData} {ds : List PyData}
/-- what is new since B -/
def less (B H : Hp) : Hp := fun a => match B a with
  | some _ => none
  | none => H a
theorem less_at {B H : Hp} {a : Addr} (n : B a = none) : less B H a = H a := by
  unfold less
  rw [n]
theorem less_of {B H : Hp} {a : Addr} {o : HO} (h : less B H a = some o) : B a = none ∧ H a = some o := by
  unfold less at h
  split at h
  · cases h
  · rename_i n
    exact ⟨n, h⟩
theorem less_same {B H H' : Hp} (s : Same H H') : Same (less B H) (less B H') := fun b o e => by
  obtain ⟨n, h⟩ := less_of e
  rw [less_at n]
  exact s _ _ h
theorem less_sub {B H : Hp} : Same (less B H) H := fun _ _ e => (less_of e).2
theorem less_but {B H H' : Hp} {D : Addr} (n : B D ≠ none) (s : But D H H') : Same (less B H) H' := fun b o e => s _ _ (fun z => n (z ▸ (less_of e).1)) (less_of e).2
theorem less_keep {B H H' : Hp} {D : Addr} (n : B D ≠ none) (s : But D H H') : Same (less B H) (less B H') := fun b o e => by
  obtain ⟨m, h⟩ := less_of e
  rw [less_at m]
  exact s _ _ (fun z => n (z ▸ m)) h
theorem less_less {B C H : Hp} (s : ∀ a, C a = none → B a = none) : Same (less C H) (less B H) := fun b o e => by
  obtain ⟨n, h⟩ := less_of e
  rw [less_at (s _ n)]
  exact h
theorem less_new {B H : Hp} {t : Addr} {o : HO} (n : B t = none) : less B (upd H t o) t = some o := by
  rw [less_at n]
  exact upd_same
def tDt (K : PySem.W.Frag) (B : Hp) (d : PyData) : TE := fun _ H Q => Same B H ∧ ∀ v H', Same H H' → Dp K (less B H') v d → Q v H'
def tDs (K : PySem.W.Frag) (B : Hp) (ds : List PyData) : TA := fun _ H Q => Same B H ∧ ∀ vs H', Same H H' → DpAll K (less B H') vs ds → Q vs H'
theorem pa_impW {t t' : TA} (h : PA X es t) (i : ∀ σ H Q, t' σ H Q → t σ H Q) : PA X es t' := ⟨fun pos pins s σ H Q I q => h.run pos pins s σ H Q I (i σ H Q q)⟩
theorem wd_str {x : Str} {j : Nat} : PE X (.Constant (.str x) j pos) (tDt K B (.str x)) := pe_imp pe_str fun _ H _ q => q.2 _ H (Same.refl _) (.str _)
theorem wd_int {x : Int} {j : Nat} : PE X (.Constant (.int x) j pos) (tDt K B (.int x)) := pe_imp pe_int fun _ H _ q => q.2 _ H (Same.refl _) (.int _)
theorem wd_bl {x : Bool} {j : Nat} : PE X (.Constant (.bool x) j pos) (tDt K B (.bool x)) := pe_imp pe_bl fun _ H _ q => q.2 _ H (Same.refl _) (.bl _)
theorem wd_non {j : Nat} : PE X (.Constant .none j pos) (tDt K B .none) := pe_imp pe_non fun _ H _ q => q.2 _ H (Same.refl _) .non
theorem wd_neg {x : Int} {j : Nat} {p2 : Pos} : PE X (.UnaryOp .USub (.Constant (.int x) j p2) pos) (tDt K B (.int (-x))) := pe_imp (pe_un un_neg pe_int) fun _ H _ q => ⟨_, rfl, q.2 _ H (Same.refl _) (.int _)⟩
theorem wd_pow {x y : Int} {j k : Nat} {p1 p2 : Pos} (h : CPow x y := by exact ⟨by decide, by decide, by decide⟩) : PE X (.BinOp (.Constant (.int x) j p1) .Pow (.Constant (.int y) k p2) pos) (tDt K B (.int (x ^ y.toNat))) := pe_imp (pe_op op_pow pe_int pe_int) fun _ H _ q => ⟨_, _, rfl, rfl, h, q.2 _ H (Same.refl _) (.int _)⟩
theorem wd_nil : PA X [] (tDs K B []) := pa_impW pa_nil fun _ H _ q => q.2 [] H (Same.refl _) .nil
theorem wd_cons (he : PE X e (tDt K B d)) (ht : PA X es (tDs K B ds)) (hs : starEach (e :: es) X.env = (false, eval e X.env) :: starEach es X.env := by rfl) : PA X (e :: es) (tDs K B (d :: ds)) :=
  pa_impW (pa_cons he ht hs) fun _ _ _ q => ⟨q.1, fun v H1 s1 dv => ⟨q.1.trans s1, fun vs H2 s2 dvs => q.2 _ H2 (s1.trans s2) (.cons (dp_same (less_same s2) dv) dvs)⟩⟩
theorem wdK (K : PySem.W.Frag) (B : Hp) (h : PA X es (tDs K B ds)) : PA X es (tDs K B ds) := h
theorem wd_tup {n : Nat} (h : PA X es (tDs K B ds)) (hl : ds.length ≤ 100 := by exact Nat.le_of_ble_eq_true rfl) : PE X (.Tuple es n pos) (tDt K B (.tuple ds)) := pe_imp (pe_tup h) fun _ _ _ q => ⟨q.1, fun vs H1 s1 dvs =>
  ⟨by rw [dps_len dvs, sizeLine_eq]; omega, fun t nt => q.2 _ _ (s1.trans (same_new nt)) (.tup (.of (less_new (none_of (q.1.trans s1) nt))) (dps_same (less_same (same_new nt)) dvs))⟩⟩
theorem wd_lst (h : PA X es (tDs K B ds)) (hl : ds.length ≤ 100 := by exact Nat.le_of_ble_eq_true rfl) : PE X (.List es pos) (tDt K B (.list ds)) := pe_imp (pe_lst h) fun _ _ _ q => ⟨q.1, fun vs H1 s1 dvs =>
  ⟨by rw [dps_len dvs, sizeLine_eq]; omega, fun t nt => q.2 _ _ (s1.trans (same_new nt)) (.lst (.of (less_new (none_of (q.1.trans s1) nt))) (dps_same (less_same (same_new nt)) dvs))⟩⟩
end
/-- data with all its parts, decided -/
def atomB : PyData → Bool
  | .str s => decide (s.length ≤ 1000000) && PyData.strOk s
  | .none => true
  | .bool _ => true
  | .int _ => true
  | _ => false
def fitB : Nat → PyData → Bool
  | 0, d => atomB d
  | n + 1, .list ds => decide (ds.length ≤ 100000) && ds.all (fitB n)
  | n + 1, .tuple ds => decide (ds.length ≤ 100000) && ds.all (fitB n)
  | _ + 1, d => atomB d
theorem atomB_ok : ∀ {d : PyData}, atomB d = true → atomOk d
  | .str s, h => ⟨of_decide_eq_true (He.ba h).1, (He.ba h).2⟩
  | .none, _ => trivial
  | .bool _, _ => trivial
  | .int _, _ => trivial
theorem fitB_ok : ∀ {n : Nat} {d : PyData}, fitB n d = true → fit n d
  | 0, _, h => atomB_ok h
  | n + 1, .list ds, h => ⟨of_decide_eq_true (He.ba h).1, fun d hd => fitB_ok (List.all_eq_true.mp (He.ba h).2 d hd)⟩
  | n + 1, .tuple ds, h => ⟨of_decide_eq_true (He.ba h).1, fun d hd => fitB_ok (List.all_eq_true.mp (He.ba h).2 d hd)⟩
  | n + 1, .str s, h => atomB_ok (d := .str s) h
  | n + 1, .none, h => trivial
  | n + 1, .bool _, h => trivial
  | n + 1, .int _, h => trivial
theorem cat_step {K : PySem.W.Frag} {σ : L2.St} {B G : Hp} {l : Addr} {xs : List V} {ds es : List PyData} {Q : VK} (r : Same B G) (a : G l = some (.lst xs)) (d : DpAll K (less B G) xs ds) (len : ds.length + es.length ≤ 1000)
    (k : ∀ (p : Addr) (ys : List V) (G' : Hp), Same B G' → G' p = some (.lst ys) → DpAll K (less B G') ys (ds ++ es) → Q (.ref p) G') : tLst (tDs K B es) σ G (fun y H2 => rCat (.ref l) y H2 Q) := by
  refine ⟨r, fun vs H2 s2 d2 => ?_⟩
  have l1 := dps_len d
  have l2 := dps_len d2
  refine ⟨by rw [l2, sizeLine_eq]; omega, ?_⟩
  intro m nm
  have t2 := same_new (o := .lst vs) nm
  refine ⟨l, m, xs, vs, rfl, rfl, t2 _ _ (s2 _ _ a), upd_same, by rw [l1, l2, sizeLine_eq]; omega, ?_⟩
  intro p np
  have t3 := same_new (o := .lst (xs ++ vs)) np
  exact k p _ _ (r.trans (s2.trans (t2.trans t3))) upd_same (dps_app (dps_same (less_same (s2.trans (t2.trans t3))) d) (dps_same (less_same (t2.trans t3)) d2))

end M

set_option Elab.async false
set_option linter.all false
set_option maxRecDepth 100000
set_option maxHeartbeats 2000000
namespace M
open PySem PySem.Spec PyProof.Rows L2

/-! ### expressions and their texts -/
def sg1 (c : Nat) : Str := ⟨#[c]⟩
theorem tl_sg1 (c : Nat) : TL.tl (sg1 c) = [c] := rfl
theorem sg1_inj {c d : Nat} (h : sg1 c = sg1 d) : c = d := by
  have := congrArg TL.tl h
  rw [tl_sg1, tl_sg1] at this
  exact (List.cons.inj this).1
def regC (c : Nat) : Bool := c == 97 || (c == 98 || (c == 99 || (c == 100 || c == 120)))
def opC (c : Nat) : Bool := c == 43 || (c == 45 || (c == 42 || (c == 61 || c == 60)))
def EOk : Nat → Exp → Prop
  | _, .num i => 0 ≤ i ∧ i ≤ 9
  | _, .reg r => ∃ c, r = sg1 c ∧ regC c = true
  | 0, .op _ _ _ => False
  | n + 1, .op s a b => (∃ c, s = sg1 c ∧ opC c = true) ∧ EOk n a ∧ EOk n b
def etx : Exp → List Nat
  | .num i => [48 + i.toNat]
  | .reg r => TL.tl r
  | .op s a b => 40 :: (etx a ++ (TL.tl s ++ (etx b ++ [41])))
theorem EOk.up : ∀ {n m : Nat} {e : Exp}, EOk n e → n ≤ m → EOk m e
  | _, _, .num i, h, _ => by simp only [EOk] at h ⊢; exact h
  | _, _, .reg r, h, _ => by simp only [EOk] at h ⊢; exact h
  | 0, _, .op _ _ _, h, _ => h.elim
  | n + 1, 0, .op _ _ _, _, l => absurd l (Nat.not_succ_le_zero n)
  | n + 1, m + 1, .op s a b, h, l => ⟨h.1, h.2.1.up (Nat.le_of_succ_le_succ l), h.2.2.up (Nat.le_of_succ_le_succ l)⟩
theorem regC_cases {c : Nat} (h : regC c = true) : c = 97 ∨ c = 98 ∨ c = 99 ∨ c = 100 ∨ c = 120 := by
  simpa [regC] using h
theorem opC_cases {c : Nat} (h : opC c = true) : c = 43 ∨ c = 45 ∨ c = 42 ∨ c = 61 ∨ c = 60 := by
  simpa [opC] using h
theorem EOk.num_ok {n : Nat} {i : Int} (h : EOk n (.num i)) : 0 ≤ i ∧ i ≤ 9 := by simpa only [EOk] using h
theorem EOk.reg_ok {n : Nat} {r : Str} (h : EOk n (.reg r)) : ∃ c, r = sg1 c ∧ regC c = true := by simpa only [EOk] using h
theorem EOk.op_ok {n : Nat} {s : Str} {a b : Exp} (h : EOk n (.op s a b)) : ∃ m, n = m + 1 ∧ (∃ c, s = sg1 c ∧ opC c = true) ∧ EOk m a ∧ EOk m b := by
  cases n with
  | zero => exact h.elim
  | succ m => exact ⟨m, rfl, h⟩
theorem etx_len : ∀ {n : Nat} {e : Exp}, EOk n e → 1 ≤ (etx e).length ∧ (etx e).length + 3 ≤ 4 * 2 ^ n
  | n, .num i, _ => ⟨Nat.le_refl 1, by have := Nat.one_le_two_pow (n := n); show 1 + 3 ≤ _; omega⟩
  | n, .reg r, h => by
    obtain ⟨c, rfl, _⟩ := h.reg_ok
    have := Nat.one_le_two_pow (n := n)
    exact ⟨Nat.le_refl 1, by show 1 + 3 ≤ _; omega⟩
  | n, .op s a b, h => by
    obtain ⟨m, rfl, ⟨c, rfl, _⟩, ha, hb⟩ := h.op_ok
    obtain ⟨a1, a2⟩ := etx_len ha
    obtain ⟨b1, b2⟩ := etx_len hb
    have e : (etx (.op (sg1 c) a b)).length = (etx a).length + (etx b).length + 3 := by
      show (40 :: (etx a ++ ([c] ++ (etx b ++ [41])))).length = _
      simp only [List.length_cons, List.length_append, List.length_nil]
      omega
    rw [e, Nat.pow_succ]
    omega
/-! ### the program's reader -/
def atLeaf (L : List Nat) (p : Nat) : Option (Exp × Nat) := match L[p]? with
  | none => none
  | some c => if 48 ≤ c ∧ c ≤ 57 then some (.num ((c : Int) - 48), p + 1) else if regC c = true then some (.reg (sg1 c), p + 1) else none
def atE (L : List Nat) : Nat → Nat → Option (Exp × Nat)
  | 0, p => atLeaf L p
  | m + 1, p => if L[p]? = some 40 then
      match atE L m (p + 1) with
      | none => none
      | some (a, q) => match L[q]? with
        | none => none
        | some s => if opC s = true then
            match atE L m (q + 1) with
            | none => none
            | some (b, r) => if L[r]? = some 41 then some (.op (sg1 s) a b, r + 1) else none
          else none
    else atLeaf L p
theorem drop_one {L r : List Nat} {p c : Nat} (h : L.drop p = c :: r) : L[p]? = some c ∧ L.drop (p + 1) = r := by
  have e : L[p]? = (L.drop p)[0]? := by rw [List.getElem?_drop, Nat.add_zero]
  refine ⟨by rw [e, h]; rfl, ?_⟩
  rw [← List.drop_drop, h]
  rfl
theorem drop_at {L : List Nat} {p c : Nat} (h : L[p]? = some c) : L.drop p = c :: L.drop (p + 1) := by
  obtain ⟨hp, e⟩ := List.getElem?_eq_some_iff.mp h
  rw [← e]
  exact List.drop_eq_getElem_cons hp
theorem drop_more {L a r : List Nat} {p : Nat} (h : L.drop p = a ++ r) : L.drop (p + a.length) = r := by
  rw [← List.drop_drop, h, List.drop_left]
theorem atLeaf_ok {L : List Nat} {p q n : Nat} {e : Exp} (h : atLeaf L p = some (e, q)) : EOk n e ∧ L.drop p = etx e ++ L.drop q ∧ q = p + 1 ∧ q ≤ L.length := by
  unfold atLeaf at h
  split at h
  · cases h
  · rename_i c hc
    have hl := (List.getElem?_eq_some_iff.mp hc).1
    split at h
    · rename_i hd
      cases h
      refine ⟨by simp only [EOk]; omega, ?_, rfl, hl⟩
      rw [drop_at hc]
      show c :: _ = (48 + ((c : Int) - 48).toNat) :: _
      congr 1
      omega
    · split at h
      · rename_i hr
        cases h
        exact ⟨by simp only [EOk]; exact ⟨c, rfl, hr⟩, drop_at hc, rfl, hl⟩
      · cases h
theorem atE_ok {L : List Nat} : ∀ {n p q : Nat} {e : Exp}, atE L n p = some (e, q) → EOk n e ∧ L.drop p = etx e ++ L.drop q ∧ p < q ∧ q ≤ L.length
  | 0, p, q, e, h => by
    obtain ⟨a, b, c, d⟩ := atLeaf_ok (n := 0) h
    exact ⟨a, b, by omega, d⟩
  | m + 1, p, q, e, h => by
    unfold atE at h
    split at h
    · rename_i h40
      split at h
      · cases h
      · rename_i a q1 h1
        obtain ⟨oa, da, la, _⟩ := atE_ok h1
        split at h
        · cases h
        · rename_i s hs
          split at h
          · rename_i os
            split at h
            · cases h
            · rename_i b r h2
              obtain ⟨ob, db, lb, _⟩ := atE_ok h2
              split at h
              · rename_i h41
                cases h
                refine ⟨⟨⟨s, rfl, os⟩, oa, ob⟩, ?_, by omega, (List.getElem?_eq_some_iff.mp h41).1⟩
                rw [drop_at h40, da, drop_at hs, db, drop_at h41]
                show 40 :: (etx a ++ s :: (etx b ++ 41 :: _)) = (40 :: (etx a ++ ([s] ++ (etx b ++ [41])))) ++ _
                simp only [List.cons_append, List.append_assoc, List.nil_append]
              · cases h
          · cases h
    · obtain ⟨a, b, c, d⟩ := atLeaf_ok (n := m + 1) h
      exact ⟨a, b, by omega, d⟩
theorem atLeaf_num {L : List Nat} {p : Nat} {i : Int} (h : 0 ≤ i ∧ i ≤ 9) (e : L[p]? = some (48 + i.toNat)) : atLeaf L p = some (.num i, p + 1) := by
  unfold atLeaf
  rw [e]
  dsimp only
  rw [if_pos (by omega)]
  congr 3
  omega
theorem regC_no {c : Nat} (h : regC c = true) : ¬ (48 ≤ c ∧ c ≤ 57) ∧ c ≠ 40 ∧ c ≠ 41 := by
  rcases regC_cases h with rfl | rfl | rfl | rfl | rfl <;> decide
theorem opC_no {c : Nat} (h : opC c = true) : ¬ (48 ≤ c ∧ c ≤ 57) ∧ c ≠ 40 ∧ c ≠ 41 ∧ regC c = false := by
  rcases opC_cases h with rfl | rfl | rfl | rfl | rfl <;> decide
theorem atLeaf_reg {L : List Nat} {p c : Nat} (h : regC c = true) (e : L[p]? = some c) : atLeaf L p = some (.reg (sg1 c), p + 1) := by
  unfold atLeaf
  rw [e]
  dsimp only
  rw [if_neg (regC_no h).1, if_pos h]
theorem atE_of {L : List Nat} : ∀ {n p : Nat} {e : Exp} {r : List Nat}, EOk n e → L.drop p = etx e ++ r → atE L n p = some (e, p + (etx e).length)
  | n, p, .num i, r, h, d => by
    have b := h.num_ok
    have e1 := (drop_one (c := 48 + i.toNat) (r := r) d).1
    cases n with
    | zero => exact atLeaf_num b e1
    | succ m =>
      unfold atE
      rw [if_neg (by rw [e1]; intro z; have := Option.some.inj z; omega)]
      exact atLeaf_num b e1
  | n, p, .reg s, r, h, d => by
    obtain ⟨c, rfl, hc⟩ := h.reg_ok
    have e1 := (drop_one (c := c) (r := r) d).1
    cases n with
    | zero => exact atLeaf_reg hc e1
    | succ m =>
      unfold atE
      rw [if_neg (by rw [e1]; intro z; exact (regC_no hc).2.1 (Option.some.inj z))]
      exact atLeaf_reg hc e1
  | n, p, .op s a b, r, h, d => by
    obtain ⟨m, rfl, ⟨c, rfl, hc⟩, ha, hb⟩ := h.op_ok
    have d0 : L.drop p = 40 :: (etx a ++ (c :: (etx b ++ 41 :: r))) := by
      rw [d]
      show (40 :: (etx a ++ ([c] ++ (etx b ++ [41])))) ++ r = _
      simp only [List.cons_append, List.append_assoc, List.nil_append]
    obtain ⟨e1, d1⟩ := drop_one d0
    have d2 := drop_more d1
    obtain ⟨e3, d3⟩ := drop_one d2
    have d4 := drop_more d3
    obtain ⟨e5, d5⟩ := drop_one d4
    unfold atE
    rw [if_pos e1, atE_of ha d1]
    dsimp only
    rw [e3]
    dsimp only
    rw [if_pos hc, atE_of hb d3]
    dsimp only
    rw [if_pos e5]
    congr 2
    show _ = p + (40 :: (etx a ++ ([c] ++ (etx b ++ [41])))).length
    simp only [List.length_cons, List.length_append, List.length_nil]
    omega
def inE (L : List Nat) : Option Exp := match atE L 6 0 with
  | some (e, q) => if q = L.length then some e else none
  | none => none
theorem inE_iff {L : List Nat} {e : Exp} : inE L = some e ↔ EOk 6 e ∧ L = etx e := by
  unfold inE
  constructor
  · intro h
    split at h
    · rename_i e' q he
      split at h
      · rename_i hq
        cases h
        obtain ⟨o, d, _, _⟩ := atE_ok he
        rw [hq, List.drop_zero, List.drop_length, List.append_nil] at d
        exact ⟨o, d⟩
      · cases h
    · cases h
  · rintro ⟨o, rfl⟩
    rw [atE_of (r := []) o (by rw [List.drop_zero, List.append_nil])]
    dsimp only
    rw [if_pos (Nat.zero_add _)]
/-! ### the law's reader -/
inductive SE where
  | ex (e : Exp) (d : Nat) | sg (c : Nat)
def stx : SE → List Nat
  | .ex e _ => etx e
  | .sg c => [c]
def four (l : List SE) : Option (Exp × Nat × Nat × Exp × Nat) := match l with
  | [.sg c, .ex a x, .sg s, .ex b y] => if c = 40 ∧ opC s = true then some (a, x, s, b, y) else none
  | _ => none
def redS (S : List SE) : Option (List SE) := match four (S.drop (S.length - 4)) with
  | some (a, x, s, b, y) => if 1 + max x y ≤ 6 then some (S.take (S.length - 4) ++ [.ex (.op (sg1 s) a b) (1 + max x y)]) else none
  | none => none
def stp (S : List SE) (c : Nat) : Option (List SE) :=
  if regC c = true then some (S ++ [.ex (.reg (sg1 c)) 0]) else if 48 ≤ c ∧ c ≤ 57 then some (S ++ [.ex (.num ((c : Int) - 48)) 0])
  else if c = 41 then redS S else if c = 40 ∧ 40 < S.length then none else some (S ++ [.sg c])
def runS : List SE → List Nat → Option (List SE)
  | S, [] => some S
  | S, c :: r => match stp S c with
    | none => none
    | some S' => runS S' r
def finS : List SE → Option Exp
  | [.ex e _] => some e
  | _ => none
def rdS (L : List Nat) : Option Exp := (runS [] L).bind finS
def okSE : SE → Prop
  | .ex e d => EOk d e ∧ d ≤ 6
  | .sg _ => True
def flat (S : List SE) : List Nat := (S.map stx).flatten
theorem flat_app (S T : List SE) : flat (S ++ T) = flat S ++ flat T := by
  unfold flat
  rw [List.map_append, List.flatten_append]
theorem four_ok {l : List SE} {a b : Exp} {x s y : Nat} (h : four l = some (a, x, s, b, y)) : l = [.sg 40, .ex a x, .sg s, .ex b y] ∧ opC s = true := by
  unfold four at h
  split at h
  · split at h
    · rename_i o
      obtain ⟨o1, o2⟩ := o
      subst o1
      cases h
      exact ⟨rfl, o2⟩
    · cases h
  · cases h
theorem redS_ok {S S' : List SE} (h : redS S = some S') : ∃ a b x s y, S = S.take (S.length - 4) ++ [.sg 40, .ex a x, .sg s, .ex b y] ∧ opC s = true ∧ 1 + max x y ≤ 6 ∧ S' = S.take (S.length - 4) ++ [.ex (.op (sg1 s) a b) (1 + max x y)] := by
  unfold redS at h
  split at h
  · rename_i a x s b y hf
    obtain ⟨e, o⟩ := four_ok hf
    split at h
    · rename_i l
      cases h
      refine ⟨a, b, x, s, y, ?_, o, l, rfl⟩
      rw [← e, List.take_append_drop]
    · cases h
  · cases h
theorem stp_ok {S S' : List SE} {c : Nat} (i : ∀ x ∈ S, okSE x) (h : stp S c = some S') : (∀ x ∈ S', okSE x) ∧ flat S' = flat S ++ [c] := by
  have more : ∀ (y : SE), okSE y → (∀ x ∈ S ++ [y], okSE x) := fun y oy x hx => by
    rcases List.mem_append.mp hx with hx | hx
    · exact i x hx
    · rw [List.mem_singleton.mp hx]
      exact oy
  unfold stp at h
  split at h
  · rename_i hr
    cases h
    exact ⟨more _ ⟨⟨c, rfl, hr⟩, Nat.zero_le _⟩, by rw [flat_app]; rfl⟩
  split at h
  · rename_i hd
    cases h
    refine ⟨more _ ⟨by simp only [EOk]; omega, Nat.zero_le _⟩, ?_⟩
    rw [flat_app]
    congr 1
    show [48 + ((c : Int) - 48).toNat] = [c]
    congr 1
    omega
  split at h
  · rename_i h41
    obtain ⟨a, b, x, s, y, e, os, l, rfl⟩ := redS_ok h
    generalize S.take (S.length - 4) = T at e
    subst e
    have oT : ∀ x ∈ T, okSE x := fun x hx => i x (List.mem_append_left _ hx)
    have oa : EOk x a ∧ x ≤ 6 := i (.ex a x) (by simp)
    have ob : EOk y b ∧ y ≤ 6 := i (.ex b y) (by simp)
    refine ⟨fun z hz => ?_, ?_⟩
    · rcases List.mem_append.mp hz with hz | hz
      · exact oT z hz
      · rw [List.mem_singleton.mp hz]
        refine ⟨?_, l⟩
        rw [Nat.add_comm]
        exact ⟨⟨s, rfl, os⟩, oa.1.up (Nat.le_max_left _ _), ob.1.up (Nat.le_max_right _ _)⟩
    · rw [flat_app, flat_app, List.append_assoc, h41]
      congr 1
      show (40 :: (etx a ++ ([s] ++ (etx b ++ [41])))) ++ [] = ([40] ++ (etx a ++ ([s] ++ (etx b ++ [])))) ++ [41]
      simp only [List.append_nil, List.cons_append, List.append_assoc, List.nil_append]
  split at h
  · cases h
  · cases h
    exact ⟨more _ trivial, by rw [flat_app]; rfl⟩
theorem runS_ok : ∀ {L : List Nat} {S S' : List SE}, (∀ x ∈ S, okSE x) → runS S L = some S' → (∀ x ∈ S', okSE x) ∧ flat S' = flat S ++ L
  | [], S, S', i, h => by
    cases h
    exact ⟨i, (List.append_nil _).symm⟩
  | c :: r, S, S', i, h => by
    unfold runS at h
    split at h
    · cases h
    · rename_i S1 h1
      obtain ⟨i1, f1⟩ := stp_ok i h1
      obtain ⟨i2, f2⟩ := runS_ok i1 h
      exact ⟨i2, by rw [f2, f1, List.append_assoc]; rfl⟩
theorem runS_step {S S' : List SE} {c : Nat} {r : List Nat} (h : stp S c = some S') : runS S (c :: r) = runS S' r := by
  rw [runS, h]
theorem runS_exp : ∀ {n : Nat} {e : Exp} {S : List SE} {r : List Nat}, EOk n e → n ≤ 6 → S.length + 3 * n ≤ 38 → ∃ d, d ≤ n ∧ runS S (etx e ++ r) = runS (S ++ [.ex e d]) r
  | n, .num i, S, r, h, hn, hl => by
    have b := h.num_ok
    refine ⟨0, Nat.zero_le _, runS_step ?_⟩
    unfold stp
    have nr : ¬ regC (48 + i.toNat) = true := fun z => (regC_no z).1 ⟨by omega, by omega⟩
    rw [if_neg nr, if_pos ⟨by omega, by omega⟩]
    have e : (((48 + i.toNat : Nat) : Int) - 48) = i := by omega
    rw [e]
  | n, .reg s, S, r, h, hn, hl => by
    obtain ⟨c, rfl, hc⟩ := h.reg_ok
    refine ⟨0, Nat.zero_le _, runS_step ?_⟩
    unfold stp
    rw [if_pos hc]
  | n, .op s a b, S, r, h, hn, hl => by
    obtain ⟨m, rfl, ⟨c, rfl, hc⟩, ha, hb⟩ := h.op_ok
    have d0 : etx (.op (sg1 c) a b) ++ r = 40 :: (etx a ++ (c :: (etx b ++ 41 :: r))) := by
      show (40 :: (etx a ++ ([c] ++ (etx b ++ [41])))) ++ r = _
      simp only [List.cons_append, List.append_assoc, List.nil_append]
    obtain ⟨c1, c2, c3, c4⟩ := opC_no hc
    have s0 : stp S 40 = some (S ++ [.sg 40]) := by
      unfold stp
      rw [if_neg (by decide), if_neg (by decide), if_neg (by decide), if_neg (by omega)]
    obtain ⟨x, hx, e1⟩ := runS_exp (S := S ++ [.sg 40]) (r := c :: (etx b ++ 41 :: r)) ha (by omega) (by simp only [List.length_append, List.length_singleton]; omega)
    have s2 : stp (S ++ [.sg 40] ++ [.ex a x]) c = some (S ++ [.sg 40] ++ [.ex a x] ++ [.sg c]) := by
      unfold stp
      rw [if_neg (by rw [c4]; decide), if_neg c1, if_neg c3, if_neg (fun z => c2 z.1)]
    obtain ⟨y, hy, e3⟩ := runS_exp (S := S ++ [.sg 40] ++ [.ex a x] ++ [.sg c]) (r := 41 :: r) hb (by omega) (by simp only [List.length_append, List.length_singleton]; omega)
    have l1 : 1 + max x y ≤ m + 1 := by
      have := Nat.max_le.mpr ⟨hx, hy⟩
      omega
    have s4 : stp (S ++ [.sg 40] ++ [.ex a x] ++ [.sg c] ++ [.ex b y]) 41 = some (S ++ [.ex (.op (sg1 c) a b) (1 + max x y)]) := by
      have e : S ++ [.sg 40] ++ [.ex a x] ++ [.sg c] ++ [.ex b y] = S ++ [SE.sg 40, .ex a x, .sg c, .ex b y] := by simp only [List.append_assoc, List.cons_append, List.nil_append]
      rw [e]
      unfold stp
      rw [if_neg (by decide), if_neg (by decide), if_pos rfl]
      unfold redS
      have l4 : (S ++ [SE.sg 40, .ex a x, .sg c, .ex b y]).length - 4 = S.length := by
        rw [List.length_append]
        exact Nat.add_sub_cancel ..
      have f : four [SE.sg 40, .ex a x, .sg c, .ex b y] = some (a, x, c, b, y) := by
        show (if 40 = 40 ∧ opC c = true then some (a, x, c, b, y) else none) = _
        rw [if_pos ⟨rfl, hc⟩]
      rw [l4, List.drop_left, List.take_left, f]
      dsimp only
      rw [if_pos (by omega)]
    refine ⟨1 + max x y, l1, ?_⟩
    rw [d0, runS_step s0, e1, runS_step s2, e3, runS_step s4]
theorem rdS_iff {L : List Nat} {e : Exp} : rdS L = some e ↔ EOk 6 e ∧ L = etx e := by
  unfold rdS
  constructor
  · intro h
    obtain ⟨S, h1, h2⟩ := Option.bind_eq_some_iff.mp h
    obtain ⟨i, f⟩ := runS_ok (S := []) (fun x hx => nomatch hx) h1
    unfold finS at h2
    split at h2
    · rename_i e' d
      cases h2
      have o : EOk d e ∧ d ≤ 6 := i (.ex e d) List.mem_cons_self
      refine ⟨o.1.up o.2, ?_⟩
      have f : etx e ++ [] = [] ++ L := f
      rw [List.append_nil, List.nil_append] at f
      exact f.symm
    · cases h2
  · rintro ⟨o, rfl⟩
    obtain ⟨d, _, e1⟩ := runS_exp (S := []) (r := []) o (Nat.le_refl 6) (by decide)
    rw [List.append_nil, List.nil_append] at e1
    rw [e1]
    rfl
theorem rdS_inE (L : List Nat) : rdS L = inE L := by
  cases h : inE L with
  | none =>
    cases g : rdS L with
    | none => rfl
    | some e => rw [inE_iff.mpr (rdS_iff.mp g)] at h; cases h
  | some e => exact rdS_iff.mpr (inE_iff.mp h)

end M

set_option Elab.async false
set_option linter.all false
set_option maxRecDepth 100000
set_option maxHeartbeats 2000000
namespace M
open PySem PySem.Spec PyProof.Rows L2

/-! ### more rules -/
section
variable {X : Cx}
/-- a text times a number -/
theorem op_mul_str : OpR X (binaryOp .Mult) (fun x y H Q => ∃ (a : Str) (n : Int), x = .str a ∧ y = .int n ∧ (n < 1048576 ∧ -1048576 < n) ∧ a.length * n.toNat ≤ 100000 ∧ Q (.str (Txt.mul a n)) H) := by
  intro pins s σ H x y v u Q I rx ry h
  obtain ⟨a, n, rfl, rfl, hn, hl, q⟩ := h
  obtain ⟨t, rfl⟩ := rx
  obtain ⟨t', rfl⟩ := ry
  refine PySem.SB.mul ⟨?_, ?_, ?_⟩ (fun t2 k => ⟨.str (Txt.mul a n), H, I.tok _, ⟨_, rfl⟩, q⟩)
  · have h1 : ¬ n < -(2 ^ 63 : Int) := by omega
    have h2 : ¬ n ≥ 2 ^ 63 := by omega
    rw [decide_eq_false h1, decide_eq_false h2]
    rfl
  · intro h1 h0 z
    have hb : (a.length : Int) ≤ 100000 := by
      have h3 : a.length ≤ a.length * n.toNat := Nat.le_mul_of_pos_right _ (by omega)
      omega
    have hd : (100000 : Int) ≤ (2 ^ 63 - 1) / n := by
      rw [Int.le_ediv_iff_mul_le (by omega)]
      omega
    omega
  · intro h1 h0
    unfold Builtin.Str.tooLong
    rw [sizeLine_eq]
    exact decide_eq_false (by omega)
theorem mul_len (a : Str) (n : Int) : (Txt.mul a n).length ≤ a.length * n.toNat := by
  unfold Txt.mul
  by_cases h1 : n < 1
  · rw [if_pos h1]
    exact Nat.zero_le _
  · rw [if_neg h1]
    split
    · exact Nat.le_mul_of_pos_right _ (by omega)
    · show ((List.replicate n.toNat a.cps).foldl (· ++ ·) #[]).size ≤ _
      have e : ∀ (k : Nat) (b : Array Nat), ((List.replicate k a.cps).foldl (· ++ ·) b).size = b.size + k * a.cps.size := by
        intro k
        induction k with
        | zero => intro b; simp
        | succ k ih =>
          intro b
          rw [List.replicate_succ, List.foldl_cons, ih, Array.size_append, Nat.succ_mul]
          omega
      rw [e, Nat.mul_comm]
      exact Nat.le_of_eq (Nat.zero_add _)
/-- str(x), x a number or a text -/
theorem call_str_any : CallR X (.type "str") (fun xs H Q => (∃ i, xs = [.int i] ∧ i.natAbs.log2 < 1920 ∧ Q (.str (toString i)) H) ∨ ∃ a, xs = [.str a] ∧ Q (.str a) H) := by
  intro pins s σ H xs us Q I r h
  rcases h with h | h
  · exact call_str_int pins s σ H xs us Q I r h
  · obtain ⟨a, rfl, q⟩ := h
    obtain ⟨u, rfl, t, rfl⟩ := vals1 r
    exact PySem.P.str_of_str ⟨.str a, H, I, ⟨t, rfl⟩, q⟩
/-- x in t, t a tuple of data -/
theorem op_inT (hu : X.A.units + 65 < cLine) : OpR X (compareOp .In) (fun x y H Q => ∃ d ds, Dp X.K H x d ∧ Dp X.K H y (.tuple ds) ∧ SeqAt.shaped d = true ∧ SeqAt.shaped (.tuple ds) = true ∧ Q (.bl (ds.any fun z => PyData.eqv z d)) H) := by
  intro pins s σ H x y v u Q I rx ry h
  obtain ⟨d, ds, hd, he, sd, se, q⟩ := h
  obtain ⟨as, r1⟩ := Dp.reads I d x v hd rx
  obtain ⟨bs, r2⟩ := Dp.reads I (.tuple ds) y u he ry
  exact SeqAt.in_tuple_reads r2 r1 (by have := SeqAt.canLay_of_shaped se; rw [PyData.canLay0] at this; exact this) (SeqAt.canLay_of_shaped sd) (room_in_shaped sd hu) ⟨.bl _, H, I, rfl, q⟩
/-- isinstance(e, (C, D)), e the exception that the suite holds -/
theorem call_isET {a D : Addr} {oe : Obj} {pn : List (Addr × Obj)} (C : ExcC X.K D) (hz : Zc (.ref D) none oe) (hf : ∃ vs, oe.data = .fields vs) : CallR (X.suite a ((a, oe) :: pn)) (.builtin "isinstance")
    (fun xs H Q => ∃ (tp : Addr) (cs : List V) (us : List Value) (b : Bool), xs = [.ref a, .ref tp] ∧ H tp = some (.tup cs) ∧ Paired ClsV cs us ∧ PySem.W.kitAny X.K (.ref D) us = some b ∧ Q (.bl b) H) := by
  intro pins s σ H xs us Q I r h
  obtain ⟨tp, cs, ws, b, rfl, hT, k, e, q⟩ := h
  obtain ⟨u1, u2, rfl, r1, r2⟩ := vals2 r
  cases (show u1 = Value.ref a from r1)
  cases (show u2 = Value.ref tp from r2)
  obtain ⟨_, its, rv, o, h1, h2, n, h3⟩ := (show ObjOk X.prog X.w H s.heap tp (.tup cs) from I.hok tp _ hT)
  have e3 := ClsV.all k rv
  subst e3
  obtain ⟨oc, od, dt, sl⟩ := o
  simp only at h2 h3
  subst h2 h3
  obtain ⟨hget, _⟩ := I.pin (a, oe) (List.mem_append.mpr (.inl List.mem_cons_self))
  obtain ⟨vs, hv⟩ := hf
  have J : PySem.W.InstAt s.heap a oe D none := by
    obtain ⟨oc, od, oda, osl⟩ := oe
    obtain ⟨g1, g2⟩ := hz
    dsimp only at g1 g2 hv
    subst g1 g2 hv
    exact ⟨hget, rfl, rfl, trivial⟩
  exact PySem.W.kia_tup (PySem.W.handS_kitx_exc C.hg C.hk C.hs C.hd C.ha C.hn C.ht C.hm) I.kIn J h1 e (fun z => nomatch z) fun tk => ⟨.bl b, H, I.tok tk, rfl, q⟩
end
theorem Isx.toE {K : PySem.W.Frag} {C : Addr} (c : Isx K C) : ExcC K C := ⟨c.xf.ga, c.xf.gg, c.xf.exC, c.xf.hdC, c.cl, c.sp, c.tk, c.mo⟩
theorem units65 {k : Nat} {A : Around} (r : Room k A) : A.units + 65 < cLine := by have := r.un; omega
def regs5 : List Str := ["a", "b", "c", "d", "x"]
def signs : List Str := ["+", "-", "*", "=", "<"]
theorem mem_regs {s : Str} : s ∈ regs5 ↔ ∃ c, s = sg1 c ∧ regC c = true := by
  constructor
  · intro h
    rw [show regs5 = [sg1 97, sg1 98, sg1 99, sg1 100, sg1 120] by decide +kernel] at h
    simp only [List.mem_cons, List.not_mem_nil, or_false] at h
    rcases h with rfl | rfl | rfl | rfl | rfl <;> exact ⟨_, rfl, by decide⟩
  · rintro ⟨c, rfl, h⟩
    rcases regC_cases h with rfl | rfl | rfl | rfl | rfl <;> decide +kernel
theorem mem_signs {s : Str} : s ∈ signs ↔ ∃ c, s = sg1 c ∧ opC c = true := by
  constructor
  · intro h
    rw [show signs = [sg1 43, sg1 45, sg1 42, sg1 61, sg1 60] by decide +kernel] at h
    simp only [List.mem_cons, List.not_mem_nil, or_false] at h
    rcases h with rfl | rfl | rfl | rfl | rfl <;> exact ⟨_, rfl, by decide⟩
  · rintro ⟨c, rfl, h⟩
    rcases opC_cases h with rfl | rfl | rfl | rfl | rfl <;> decide +kernel
theorem sg1_regs (c : Nat) : decide (sg1 c ∈ regs5) = regC c := by
  cases h : regC c with
  | true => exact decide_eq_true (mem_regs.mpr ⟨c, rfl, h⟩)
  | false =>
    refine decide_eq_false ?_
    intro z
    obtain ⟨d, e, k⟩ := mem_regs.mp z
    rw [sg1_inj e, k] at h
    cases h
theorem sg1_signs (c : Nat) : decide (sg1 c ∈ signs) = opC c := by
  cases h : opC c with
  | true => exact decide_eq_true (mem_signs.mpr ⟨c, rfl, h⟩)
  | false =>
    refine decide_eq_false ?_
    intro z
    obtain ⟨d, e, k⟩ := mem_signs.mp z
    rw [sg1_inj e, k] at h
    cases h
theorem inV_strs (s : Str) : ∀ l : List Str, inV (.str s) (l.map V.str) = decide (s ∈ l)
  | [] => rfl
  | x :: l => by
    show ((x == s) || inV (.str s) (l.map V.str)) = _
    rw [inV_strs s l, show (x == s) = decide (x = s) from rfl, Bool.eq_iff_iff]
    simp only [Bool.or_eq_true, decide_eq_true_eq, List.mem_cons]
    exact ⟨fun h => h.elim (fun e => .inl e.symm) .inr, fun h => h.elim (fun e => .inl e.symm) .inr⟩
theorem flat_strs : ∀ l : List Str, (l.map V.str).all flatV = true
  | [] => rfl
  | _ :: l => flat_strs l
/-! ### things -/
inductive Od where
  | lf (d : PyData) | dic | t3 (s : PyData) (a b : Od)
inductive Oa (K : PySem.W.Frag) (H : Hp) : V → Od → Prop where
  | lf {v : V} {d : PyData} (h : Dp K H v d) (n : isTup 3 d = false) : Oa K H v (.lf d)
  | dic {a : Addr} (h : H a = some (.dK [])) : Oa K H (.ref a) .dic
  | t3 {t : Addr} {x y z : V} {s : PyData} {a b : Od} (h : SqT K H t [x, y, z]) (hs : Dp K H x s) (ha : Oa K H y a) (hb : Oa K H z b) : Oa K H (.ref t) (.t3 s a b)
theorem Oa.same {K : PySem.W.Frag} {H H' : Hp} (s : Same H H') : ∀ {v : V} {o : Od}, Oa K H v o → Oa K H' v o
  | _, _, .lf h n => .lf (dp_same s h) n
  | _, _, .dic h => .dic (s _ _ h)
  | _, _, .t3 h hs ha hb => .t3 (same_t s h) (dp_same s hs) (ha.same s) (hb.same s)
/-- what told data is as a thing -/
def od : PyData → Od
  | .tuple [s, a, b] => .t3 s (od a) (od b)
  | d => .lf d
theorem oa_of {K : PySem.W.Frag} {H : Hp} : ∀ {d : PyData} {v : V}, Dp K H v d → Oa K H v (od d)
  | .tuple [s, a, b], v, h => by
    obtain ⟨t, x, y, z, rfl, ht, hx, hy, hz⟩ := dp3 h
    rw [od]
    exact .t3 ht hx (oa_of hy) (oa_of hz)
  | .tuple [], v, h => .lf h rfl
  | .tuple [_], v, h => .lf h rfl
  | .tuple [_, _], v, h => .lf h rfl
  | .tuple (a :: b :: c :: d :: l), v, h => .lf h (by
    show decide (((a :: b :: c :: d :: l).length : Int) = 3) = false
    refine decide_eq_false ?_
    simp only [List.length_cons]
    omega)
  | .none, v, h => .lf h rfl
  | .bool _, v, h => .lf h rfl
  | .int _, v, h => .lf h rfl
  | .str _, v, h => .lf h rfl
  | .list _, v, h => .lf h rfl
  | .dict _, v, h => .lf h rfl
/-- its kind -/
def kdO : Od → Kd
  | .lf d => kdOf d
  | .dic => .dict
  | .t3 _ _ _ => .tuple
theorem oa_kd {K : PySem.W.Frag} {H : Hp} {v : V} {o : Od} (h : Oa K H v o) : Of K H v (kdO o) := by
  cases h with
  | lf h n => exact dp_kd h
  | dic h => exact .dict (.base (.dK h))
  | t3 h hs ha hb => exact .tuple h
/-- its parts are short -/
def okO : Od → Prop
  | .lf d => fit 5 d
  | .dic => True
  | .t3 s a b => fit 5 s ∧ okO a ∧ okO b
def asSg : PyData → Option Str
  | .str s => if s ∈ signs then some s else none
  | _ => none
/-- the expression that it is, at most n tuples deep -/
def gd : Nat → Od → Option Exp
  | _, .lf (.int i) => if 0 ≤ i ∧ i ≤ 9 then some (.num i) else none
  | _, .lf (.str s) => if s ∈ regs5 then some (.reg s) else none
  | n + 1, .t3 s a b => match asSg s, gd n a, gd n b with
    | some t, some x, some y => some (.op t x y)
    | _, _, _ => none
  | _, _ => none

end M

set_option Elab.async false
set_option linter.all false
set_option maxRecDepth 100000
set_option maxHeartbeats 2000000
namespace M
open PySem PySem.Spec PyProof.Rows L2

theorem strs_dp {K : PySem.W.Frag} {H : Hp} : ∀ l : List Str, DpAll K H (l.map V.str) (l.map PyData.str)
  | [] => .nil
  | x :: l => .cons (.str x) (strs_dp l)
theorem eqv_str2 {d : PyData} {x : Str} : PyData.eqv (.str x) d = isStr x d := by
  cases d with
  | str s =>
    rw [PyData.eqv]
    show (x == s) = (s == x)
    exact Bool.eq_iff_iff.mpr ⟨fun h => by rw [beq_iff_eq] at h ⊢; exact h.symm, fun h => by rw [beq_iff_eq] at h ⊢; exact h.symm⟩
  | _ => simp [PyData.eqv, isStr]
theorem any_signs (d : PyData) : ((signs.map PyData.str).any fun z => PyData.eqv z d) = (asSg d).isSome := by
  have e : ∀ l : List Str, ((l.map PyData.str).any fun z => PyData.eqv z d) = (match d with | .str s => decide (s ∈ l) | _ => false) := by
    intro l
    induction l with
    | nil => cases d <;> rfl
    | cons x r ih =>
      rw [List.map_cons, List.any_cons, ih, eqv_str2]
      cases d with
      | str s =>
        show ((s == x) || decide (s ∈ r)) = _
        rw [show (s == x) = decide (s = x) from rfl, Bool.eq_iff_iff]
        simp only [Bool.or_eq_true, decide_eq_true_eq, List.mem_cons]
      | _ => rfl
  rw [e]
  cases d with
  | str s =>
    show decide (s ∈ signs) = (if s ∈ signs then some s else none).isSome
    by_cases h : s ∈ signs
    · rw [if_pos h, decide_eq_true h]
      rfl
    · rw [if_neg h, decide_eq_false h]
      rfl
  | _ => rfl
theorem signs_shaped : SeqAt.shaped (.tuple (signs.map PyData.str)) = true := by decide +kernel
def isT3 : Od → Bool
  | .t3 _ _ _ => true
  | _ => false
theorem gd_lf_int (n : Nat) (i : Int) : (gd n (.lf (.int i))).isSome = (decide (0 ≤ i) && decide (i ≤ 9)) := by
  have e : gd n (.lf (.int i)) = if 0 ≤ i ∧ i ≤ 9 then some (.num i) else none := by cases n <;> rfl
  rw [e]
  by_cases h1 : 0 ≤ i
  · by_cases h2 : i ≤ 9
    · rw [if_pos ⟨h1, h2⟩, decide_eq_true h1, decide_eq_true h2]
      rfl
    · rw [if_neg (fun z => h2 z.2), decide_eq_false h2, Bool.and_false]
      rfl
  · rw [if_neg (fun z => h1 z.1), decide_eq_false h1]
    rfl
theorem gd_lf_str (n : Nat) (s : Str) : (gd n (.lf (.str s))).isSome = decide (s ∈ regs5) := by
  have e : gd n (.lf (.str s)) = if s ∈ regs5 then some (.reg s) else none := by cases n <;> rfl
  rw [e]
  by_cases h1 : s ∈ regs5
  · rw [if_pos h1, decide_eq_true h1]
    rfl
  · rw [if_neg h1, decide_eq_false h1]
    rfl
theorem gd_t3_0 (s : PyData) (a b : Od) : gd 0 (.t3 s a b) = none := rfl
theorem gd_t3 (n : Nat) (s : PyData) (a b : Od) : (gd (n + 1) (.t3 s a b)).isSome = ((asSg s).isSome && ((gd n a).isSome && (gd n b).isSome)) := by
  show (match asSg s, gd n a, gd n b with | some t, some x, some y => some (Exp.op t x y) | _, _, _ => none).isSome = _
  cases asSg s with
  | none => rfl
  | some t =>
    cases gd n a with
    | none => rfl
    | some x =>
      cases gd n b with
      | none => rfl
      | some y => rfl
theorem gd_other (n : Nat) {d : PyData} (h1 : ∀ i, d ≠ .int i) (h2 : ∀ s, d ≠ .str s) : gd n (.lf d) = none := by
  cases d with
  | int i => exact absurd rfl (h1 i)
  | str s => exact absurd rfl (h2 s)
  | _ => cases n <;> rfl
theorem gd_dic (n : Nat) : gd n .dic = none := by cases n <;> rfl
/-- an expression as a thing -/
def eo : Exp → Od
  | .num i => .lf (.int i)
  | .reg r => .lf (.str r)
  | .op s a b => .t3 (.str s) (eo a) (eo b)
theorem asSg_of {s : Str} (h : s ∈ signs) : asSg (.str s) = some s := if_pos h
theorem gd_ok : ∀ {n : Nat} {o : Od} {e : Exp}, gd n o = some e → EOk n e ∧ o = eo e
  | n, .lf d, e, h => by
    cases d with
    | int i =>
      have q : (if 0 ≤ i ∧ i ≤ 9 then some (Exp.num i) else none) = some e := by cases n <;> exact h
      split at q
      · rename_i b
        cases q
        exact ⟨by simp only [EOk]; exact b, rfl⟩
      · cases q
    | str s =>
      have q : (if s ∈ regs5 then some (Exp.reg s) else none) = some e := by cases n <;> exact h
      split at q
      · rename_i b
        cases q
        exact ⟨by simp only [EOk]; exact mem_regs.mp b, rfl⟩
      · cases q
    | _ => cases n <;> cases h
  | n, .dic, e, h => by rw [gd_dic] at h; cases h
  | 0, .t3 s a b, e, h => by cases h
  | n + 1, .t3 s a b, e, h => by
    have h : (match asSg s, gd n a, gd n b with | some t, some x, some y => some (Exp.op t x y) | _, _, _ => none) = some e := h
    split at h
    · rename_i t x y h1 h2 h3
      cases h
      obtain ⟨o1, e1⟩ := gd_ok h2
      obtain ⟨o2, e2⟩ := gd_ok h3
      have e3 : s = .str t ∧ t ∈ signs := by
        unfold asSg at h1
        split at h1
        · split at h1
          · rename_i m
            cases h1
            exact ⟨rfl, m⟩
          · cases h1
        · cases h1
      rw [e1, e2, e3.1]
      exact ⟨⟨mem_signs.mp e3.2, o1, o2⟩, rfl⟩
    · cases h
theorem gd_of : ∀ {n : Nat} {e : Exp}, EOk n e → gd n (eo e) = some e
  | n, .num i, h => by
    have e : gd n (.lf (.int i)) = if 0 ≤ i ∧ i ≤ 9 then some (.num i) else none := by cases n <;> rfl
    rw [show eo (.num i) = .lf (.int i) from rfl, e, if_pos h.num_ok]
  | n, .reg s, h => by
    have e : gd n (.lf (.str s)) = if s ∈ regs5 then some (.reg s) else none := by cases n <;> rfl
    rw [show eo (.reg s) = .lf (.str s) from rfl, e, if_pos (mem_regs.mpr h.reg_ok)]
  | n, .op s a b, h => by
    obtain ⟨m, rfl, hs, ha, hb⟩ := h.op_ok
    show (match asSg (.str s), gd m (eo a), gd m (eo b) with | some t, some x, some y => some (Exp.op t x y) | _, _, _ => none) = _
    rw [asSg_of (mem_signs.mpr hs), gd_of ha, gd_of hb]
theorem oa_exp {K : PySem.W.Frag} {H : Hp} : ∀ {e : Exp} {v : V}, Dp K H v e.d → Oa K H v (eo e)
  | .num i, v, h => .lf h rfl
  | .reg r, v, h => .lf h rfl
  | .op s a b, v, h => by
    obtain ⟨t, x, y, z, rfl, ht, hx, hy, hz⟩ := dp3 h
    exact .t3 ht hx (oa_exp hy) (oa_exp hz)
theorem dp_exp {K : PySem.W.Frag} {H : Hp} : ∀ {e : Exp} {v : V}, Oa K H v (eo e) → Dp K H v e.d
  | .num i, v, h => by
    cases h with
    | lf h n => exact h
  | .reg r, v, h => by
    cases h with
    | lf h n => exact h
  | .op s a b, v, h => by
    cases h with
    | t3 ht hx ha hb => exact .tup ht (.cons hx (.cons (dp_exp ha) (.cons (dp_exp hb) .nil)))
namespace Y
section
variable {P : Program} {w : World} {K : PySem.W.Frag} {mg : Str → Option Value} {base : Heap}
theorem sq_HELD (T : Txt w K mg) (H : Hp) : SqT K H (He.ga K "HELD") (regs5.map V.str) := He.tupB_ok T.e_HELD H
theorem sq_SIGNS (T : Txt w K mg) (H : Hp) : SqT K H (He.ga K "SIGNS") (signs.map V.str) := He.tupB_ok T.e_SIGNS H
/-- a def that promises nothing -/
theorem ca_false {x : Str} {st : Stmt} {ps : List Str} {k : Nat} (F : ∃ fd, FunD K x x (defArgs st) (defBody st) (defScope st) [] [] (He.fAd K (x, none)) fd) (g : mg x = some (.ref (He.ga K x))) (hb : BindsH x x st ps) : Ca P w K mg base k x (fun _ _ _ _ => False) := by
  obtain ⟨fd, F⟩ := F
  exact ⟨_, fd, ps, ⟨fun _ _ _ _ h => h.elim, fun _ _ _ _ _ _ _ _ _ _ _ _ _ h => h.elim⟩, g, F.kp, F.bindsN hb⟩
def spTupO (K : PySem.W.Frag) : Sp := fun vs H Q _ => ∃ (v : V) (o : Od), vs = [v, .int 3] ∧ Oa K H v o ∧ Q (.bl (isT3 o)) H
theorem ca_is_tuple (T : Txt w K mg) : Ca P w K mg base 1 "is_tuple" (spTupO K) := by
  refine ca_of (N := ["value", "length"]) (ps := ["value", "length"]) T.f_is_tuple T.g_is_tuple ⟨rfl, rfl, rfl, by decide +kernel, rfl, by decide +kernel, by decide +kernel⟩ (fun _ _ _ _ _ _ us hl => match us, hl with | [_, _], _ => rfl)
    (fun vs H Q E h => by obtain ⟨v, o, rfl, ho, q⟩ := h; rfl) (fun cdv A outer s H vs Q E hr h => ?_)
  have nd : (["value", "length"] : List Str).Nodup := by decide +kernel
  obtain ⟨v, o, rfl, ho, q⟩ := h
  refine ⟨_, (pss_one (ps_ret (pe_and (pe_is .tuple T.b_isinstance (pv 0) T.b_tuple boot_tuple) (pe_one (pe_cmpR op_eq (pe_callB call_len_seq (by rfl) T.b_len PySem.boot_len (pa_cons (pv 0) pa_nil)) (pv 1) (nomark _)))))), ?_⟩
  have kd := oa_kd ho
  refine ⟨_, rfl, _, _, rfl, kd, _, rfl, ?_⟩
  cases ho with
  | lf h n =>
    cases h with
    | tup h1 h2 =>
      rename_i a xs ds
      refine iteT ⟨_, rfl, _, _, rfl, .inr h1, _, rfl, rfl, ?_⟩
      have n : decide ((ds.length : Int) = 3) = false := n
      rw [show (decide (V.int (xs.length : Int) = V.int 3)) = decide ((ds.length : Int) = 3) by rw [dps_len h2]; simp, n]
      exact q
    | _ => exact iteF q
  | dic h => exact iteF q
  | t3 h hs ha hb => exact iteT ⟨_, rfl, _, _, rfl, .inr h, _, rfl, rfl, q⟩
def spIsE (K : PySem.W.Frag) : Nat → Sp
  | 0 => fun _ _ _ _ => False
  | n + 1 => fun vs H Q _ => ∃ (v : V) (o : Od) (deep : Int), vs = [v, .int deep] ∧ Oa K H v o ∧ okO o ∧ deep + n = 6 ∧ Q (.bl (gd n o).isSome) H
theorem ca_is_expression (T : Txt w K mg) : ∀ n : Nat, Ca P w K mg base (n + 3) "is_expression" (spIsE K n)
  | 0 => ca_false (ps := ["value", "deep"]) T.f_is_expression T.g_is_expression (fun _ _ _ _ _ _ us hl => match us, hl with | [_, _], _ => rfl)
  | n + 1 => by
    have ih := ca_is_expression T n
    refine ca_of (N := ["value", "deep", "sign", "one", "other"]) (ps := ["value", "deep"]) T.f_is_expression T.g_is_expression ⟨rfl, rfl, rfl, by decide +kernel, rfl, by decide +kernel, by decide +kernel⟩ (fun _ _ _ _ _ _ us hl => match us, hl with | [_, _], _ => rfl)
      (fun vs H Q E h => by obtain ⟨v, o, deep, rfl, ho, ok, h6, q⟩ := h; rfl) (fun cdv A outer s H vs Q E hr h => ?_)
    have nd : (["value", "deep", "sign", "one", "other"] : List Str).Nodup := by decide +kernel
    obtain ⟨v, o, deep, rfl, ho, ok, h6, q⟩ := h
    refine ⟨_, (pss_cons (ps_if (pt_val (pe_ca (M.ca_is_integer T) hr (pa_cons (pv 0) pa_nil) (by omega))) (pss_one (ps_ret (pe_chain op_le op_le pe_int (pv 0) pe_int))) pss_nil)
      (pss_cons (ps_if (pt_val (pe_is .str T.b_isinstance (pv 0) T.b_str boot_str)) (pss_one (ps_ret (pe_cmpR op_in_seq (pv 0) (pe_gr T.g_HELD) (by rfl)))) pss_nil)
      (pss_cons (ps_if (PW.pt (pw_or (pt_not (pt_val (pe_ca (ca_is_tuple T) hr (pa_cons (pv 0) (pa_cons pe_int pa_nil)) (by omega)))) (pw_or1 (pt_cmpR op_eq (pv 1) (pe_gi T.i_DEEPEST_EXPRESSION) (nomark _))))) (pss_one (ps_ret pe_bl)) pss_nil)
      (pss_cons (ps_asg (pv 0) (pg_three K 2 3 4 rfl rfl nd rfl rfl rfl (.inl rfl) (.inl rfl) (.inl rfl) (.inr rfl) (.inr rfl) (.inr rfl)))
      (pss_one (ps_ret (pe_and (pe_cmpR (op_inT (units65 hr)) (pv 2) (pe_gr T.g_SIGNS) (by rfl)) (pe_and (pe_ca ih hr (pa_cons (pv 3) (pa_cons (pe_op op_add (pv 1) pe_int) pa_nil)) (by omega)) (pe_one (pe_ca ih hr (pa_cons (pv 4) (pa_cons (pe_op op_add (pv 1) pe_int) pa_nil)) (by omega))))))))))), ?_⟩
    have kd := oa_kd ho
    refine ⟨_, rfl, _, _, rfl, kd, _, rfl, ?_⟩
    have no : ∀ {r : Bool}, gd n o = none → r = false → Q (.bl r) H := by
      intro r e er
      rw [e] at q
      rw [er]
      exact q
    cases ho with
    | lf h nt =>
      cases h with
      | int i =>
        refine iteT ⟨_, rfl, _, _, rfl, rfl, _, rfl, ?_⟩
        rw [gd_lf_int] at q
        by_cases c : (0 : Int) ≤ i
        · rw [decide_eq_true c] at q ⊢
          exact iteT ⟨_, _, rfl, rfl, q⟩
        · rw [decide_eq_false c] at q ⊢
          exact iteF q
      | str s =>
        refine iteF ⟨_, rfl, _, _, rfl, kd, _, rfl, iteT ?_⟩
        rw [gd_lf_str, ← inV_strs] at q
        exact ⟨_, rfl, _, _, rfl, .inr (sq_HELD T H), rfl, flat_strs regs5, q⟩
      | @tup a xs ds h1 h2 =>
        have e : gd n (.lf (.tuple ds)) = none := gd_other n (fun i z => nomatch z) (fun i z => nomatch z)
        refine iteF ⟨_, rfl, _, _, rfl, kd, _, rfl, iteF ?_⟩
        refine ⟨_, rfl, _, _, rfl, .lf (.tup h1 h2) nt, _, rfl, iteT (no e rfl)⟩
      | bl b =>
        have e := gd_other n (d := .bool b) (fun i z => nomatch z) (fun i z => nomatch z)
        refine iteF ⟨_, rfl, _, _, rfl, kd, _, rfl, iteF ?_⟩
        refine ⟨_, rfl, _, _, rfl, .lf (.bl b) nt, _, rfl, iteT (no e rfl)⟩
      | non =>
        have e := gd_other n (d := .none) (fun i z => nomatch z) (fun i z => nomatch z)
        refine iteF ⟨_, rfl, _, _, rfl, kd, _, rfl, iteF ?_⟩
        refine ⟨_, rfl, _, _, rfl, .lf .non nt, _, rfl, iteT (no e rfl)⟩
      | @lst a xs ds h1 h2 =>
        have e : gd n (.lf (.list ds)) = none := gd_other n (fun i z => nomatch z) (fun i z => nomatch z)
        refine iteF ⟨_, rfl, _, _, rfl, kd, _, rfl, iteF ?_⟩
        refine ⟨_, rfl, _, _, rfl, .lf (.lst h1 h2) nt, _, rfl, iteT (no e rfl)⟩
    | dic h =>
      refine iteF ⟨_, rfl, _, _, rfl, kd, _, rfl, iteF ?_⟩
      refine ⟨_, rfl, _, _, rfl, .dic h, _, rfl, iteT (no (gd_dic n) rfl)⟩
    | @t3 t x y z s a b ht hs ha hb =>
      refine iteF ⟨_, rfl, _, _, rfl, kd, _, rfl, iteF ?_⟩
      refine ⟨_, rfl, _, _, rfl, .t3 ht hs ha hb, _, rfl, iteF ?_⟩
      refine ⟨_, rfl, rfl, _, rfl, ?_⟩
      cases n with
      | zero =>
        rw [decide_eq_true (show V.int deep = V.int 6 from congrArg V.int (by omega))]
        exact iteT (no rfl rfl)
      | succ m =>
        rw [decide_eq_false (show ¬ V.int deep = V.int 6 from fun e => by have := V.int.inj e; omega)]
        refine iteF ⟨_, rfl, t, _, rfl, ht, rfl, _, _, rfl, _, _, rfl, _, _, rfl, rfl, ?_⟩
        rw [gd_t3] at q
        refine ⟨_, rfl, s, signs.map PyData.str, hs, .tup (sq_SIGNS T H) (strs_dp signs), fit_shaped (by omega) ok.1, signs_shaped, _, rfl, ?_⟩
        rw [any_signs]
        cases e1 : (asSg s).isSome with
        | false =>
          rw [e1] at q
          exact iteF q
        | true =>
          rw [e1] at q
          refine iteT ⟨_, rfl, _, rfl, _, _, rfl, rfl, y, a, deep + 1, rfl, ha, ok.2.1, by omega, _, rfl, ?_⟩
          cases e2 : (gd m a).isSome with
          | false =>
            rw [e2] at q
            exact iteF q
          | true =>
            rw [e2] at q
            exact iteT ⟨_, rfl, _, rfl, _, _, rfl, rfl, z, b, deep + 1, rfl, hb, ok.2.2, by omega, q⟩
end
end Y

end M

set_option Elab.async false
set_option linter.all false
set_option maxRecDepth 100000
set_option maxHeartbeats 2000000
namespace M
open PySem PySem.Spec PyProof.Rows L2

def estr (e : Exp) : Str := ⟨(etx e).toArray⟩
theorem tl_estr (e : Exp) : TL.tl (estr e) = etx e := rfl
theorem estr_len (e : Exp) : (estr e).length = (etx e).length := rfl
theorem s_lp : TL.tl ("(" : Str) = [40] := by decide +kernel
theorem s_rp : TL.tl (")" : Str) = [41] := by decide +kernel
theorem l_lp : ("(" : Str).length = 1 := by decide +kernel
theorem l_rp : (")" : Str).length = 1 := by decide +kernel
theorem estr_op (s : Str) (a b : Exp) : ("(" : Str) ++ estr a ++ s ++ estr b ++ (")" : Str) = estr (.op s a b) := TL.ext_tl (by
  simp only [TL.tl_append, tl_estr, s_lp, s_rp]
  show _ = 40 :: (etx a ++ (TL.tl s ++ (etx b ++ [41])))
  simp only [List.append_assoc, List.cons_append, List.nil_append])
theorem etx_509 {n : Nat} {e : Exp} (h : EOk n e) (hn : n ≤ 7) : (etx e).length ≤ 509 := by
  have h1 := (etx_len h).2
  have h2 : 2 ^ n ≤ 2 ^ 7 := Nat.pow_le_pow_right (by decide) hn
  omega
namespace Y
section
variable {P : Program} {w : World} {K : PySem.W.Frag} {mg : Str → Option Value} {base : Heap}
def spTx (K : PySem.W.Frag) : Nat → Sp
  | 0 => fun _ _ _ _ => False
  | n + 1 => fun vs H Q _ => ∃ (v : V) (e : Exp), vs = [v] ∧ Dp K H v e.d ∧ EOk n e ∧ n ≤ 7 ∧ Q (.str (estr e)) H
theorem ca_text_of (T : Txt w K mg) : ∀ n : Nat, Ca P w K mg base (n + 3) "text_of" (spTx K n)
  | 0 => ca_false (ps := ["e"]) T.f_text_of T.g_text_of (fun _ _ _ _ _ _ us hl => match us, hl with | [_], _ => rfl)
  | n + 1 => by
    have ih := ca_text_of T n
    refine ca_of (N := ["e", "sign", "one", "other"]) (ps := ["e"]) T.f_text_of T.g_text_of ⟨rfl, rfl, rfl, by decide +kernel, rfl, by decide +kernel, by decide +kernel⟩ (fun _ _ _ _ _ _ us hl => match us, hl with | [_], _ => rfl)
      (fun vs H Q E h => by obtain ⟨v, e, rfl, hv, ok, hn, q⟩ := h; rfl) (fun cdv A outer s H vs Q E hr h => ?_)
    have nd : (["e", "sign", "one", "other"] : List Str).Nodup := by decide +kernel
    obtain ⟨v, e, rfl, hv, ok, hn, q⟩ := h
    refine ⟨_, (pss_cons (ps_if (pt_val (pe_is .str T.b_isinstance (pv 0) T.b_str boot_str)) (pss_one (ps_ret (pv 0))) pss_nil)
      (pss_cons (ps_if (pt_val (pe_is .int T.b_isinstance (pv 0) T.b_int boot_int)) (pss_one (ps_ret (pe_callTy call_str_int (by rfl) T.b_str boot_str (pa_cons (pv 0) pa_nil)))) pss_nil)
      (pss_cons (ps_asg (pv 0) (pg_three K 1 2 3 rfl rfl nd rfl rfl rfl (.inl rfl) (.inl rfl) (.inl rfl) (.inr rfl) (.inr rfl) (.inr rfl)))
      (pss_one (ps_ret (pe_op op_add_str (pe_op op_add_str (pe_op op_add_str (pe_op op_add_str pe_str (pe_ca ih hr (pa_cons (pv 2) pa_nil) (by omega))) (pv 1)) (pe_ca ih hr (pa_cons (pv 3) pa_nil) (by omega))) pe_str)))))), ?_⟩
    cases e with
    | num i =>
      cases dp_int hv
      have b := ok.num_ok
      refine ⟨_, rfl, _, _, rfl, .int i, _, rfl, iteF ⟨_, rfl, _, _, rfl, .int i, _, rfl, iteT ⟨_, rfl, _, rfl, dig_log b, ?_⟩⟩⟩
      rw [dig_str b]
      exact q
    | reg r =>
      cases dp_str hv
      exact ⟨_, rfl, _, _, rfl, .str r, _, rfl, iteT ⟨_, rfl, q⟩⟩
    | op s a b =>
      obtain ⟨m, rfl, ⟨c, rfl, hc⟩, oa, ob⟩ := ok.op_ok
      obtain ⟨t, x, y, z, rfl, ht, hx, hy, hz⟩ := dp3 hv
      cases dp_str hx
      have la := etx_509 oa (by omega)
      have lb := etx_509 ob (by omega)
      have l1 : (sg1 c).length = 1 := rfl
      refine ⟨_, rfl, _, _, rfl, .tuple ht, _, rfl, iteF ⟨_, rfl, _, _, rfl, .tuple ht, _, rfl, iteF ?_⟩⟩
      refine ⟨_, rfl, t, _, rfl, ht, rfl, _, _, rfl, _, _, rfl, _, _, rfl, rfl, ?_⟩
      refine ⟨_, rfl, y, a, rfl, hy, oa, by omega, _, _, rfl, rfl, by rw [sizeLine_eq, l_lp, estr_len]; omega, _, rfl, _, _, rfl, rfl, by rw [sizeLine_eq, len_app, l_lp, estr_len, l1]; omega, ?_⟩
      refine ⟨_, rfl, z, b, rfl, hz, ob, by omega, _, _, rfl, rfl, by rw [sizeLine_eq, len_app, len_app, l_lp, estr_len, estr_len, l1]; omega, _, _, rfl, rfl, by rw [sizeLine_eq, len_app, len_app, len_app, l_lp, l_rp, estr_len, estr_len, l1]; omega, ?_⟩
      rw [estr_op]
      exact q
def spET (K : PySem.W.Frag) : Sp := fun vs H Q E => ∃ (v : V) (o : Od), vs = [v] ∧ Oa K H v o ∧ okO o ∧ (match gd 6 o with
  | some e => Q (.str (estr e)) H
  | none => E (.ref (He.ga K "NoExpression")) none H)
theorem cx_expression_text (T : Txt w K mg) : CaX P w K mg base 11 "expression_text" (spET K) := by
  refine ca_ofX (N := ["e"]) (ps := ["e"]) T.f_expression_text T.g_expression_text ⟨rfl, rfl, rfl, by decide +kernel, rfl, by decide +kernel, by decide +kernel⟩ (fun _ _ _ _ _ _ us hl => match us, hl with | [_], _ => rfl)
    (fun vs H Q E h => by obtain ⟨v, o, rfl, ho, ok, q⟩ := h; rfl) (fun cdv A outer s H vs Q E hr h => ?_)
  have nd : (["e"] : List Str).Nodup := by decide +kernel
  obtain ⟨v, o, rfl, ho, ok, q⟩ := h
  refine ⟨_, (pss_cons (ps_if (pt_not (pt_val (pe_ca (ca_is_expression T 7) hr (pa_cons (pv 0) (pa_cons pe_int pa_nil))))) (pss_one (ps_raise0 K rfl PySem.F.excBase_ValueError T.x_NoExpression T.g_NoExpression rfl (takes_of rfl rfl rfl rfl))) pss_nil)
      (pss_one (ps_ret (pe_ca (ca_text_of T 7) hr (pa_cons (pv 0) pa_nil))))), ?_⟩
  refine ⟨_, rfl, v, o, 0, rfl, ho, ok, by decide, _, rfl, ?_⟩
  cases e : gd 6 o with
  | none =>
    rw [e] at q
    exact iteT q
  | some e1 =>
    rw [e] at q
    obtain ⟨o6, rfl⟩ := gd_ok e
    exact iteF ⟨_, rfl, v, e1, rfl, dp_exp ho, o6, by decide, q⟩
end
end Y

end M

set_option Elab.async false
set_option linter.all false
set_option maxRecDepth 100000
set_option maxHeartbeats 2000000
namespace M
open PySem PySem.Spec PyProof.Rows L2

theorem cut_one {t : Str} {p : Nat} (hp : p ≤ t.length) : cutS t (some (p : Int)) (some ((p : Int) + 1)) = match (TL.tl t)[p]? with
    | some c => sg1 c
    | none => "" := by
  have e1 : HT.sIx t.length 0 (some (p : Int)) = p := by
    rw [HT.sIx_nat]
    exact Nat.min_eq_left hp
  have e2 : HT.sIx t.length t.length (some ((p : Int) + 1)) = min (p + 1) t.length := by
    rw [show ((p : Int) + 1) = ((p + 1 : Nat) : Int) by omega, HT.sIx_nat]
  refine TL.ext_tl ?_
  have e3 : TL.tl (cutS t (some (p : Int)) (some ((p : Int) + 1))) = ((TL.tl t).drop p).take (min (p + 1) t.length - p) := by
    unfold cutS
    rw [e1, e2]
  rw [e3, tl_len]
  cases h : (TL.tl t)[p]? with
  | none =>
    have l := List.getElem?_eq_none_iff.mp h
    rw [show min (p + 1) (TL.tl t).length - p = 0 by omega, List.take_zero]
    rfl
  | some c =>
    have l := (List.getElem?_eq_some_iff.mp h).1
    rw [show min (p + 1) (TL.tl t).length - p = 1 by omega, drop_at h]
    rfl
theorem str_nil_dg : (!decide ((("" : Str).cps.toList : List Nat) < ("0" : Str).cps.toList)) = false := by decide +kernel
theorem dg_of {c : Nat} (h : 48 ≤ c ∧ c ≤ 57) : PySem.intText? (sg1 c) = some ((c : Int) - 48) := by
  have e : sg1 c = dg ((c : Int) - 48) := TL.ext_tl (by
    rw [tl_dg, tl_sg1]
    congr 1
    omega)
  rw [e]
  exact dig_int ⟨by omega, by omega⟩
theorem sg1_ne {c d : Nat} (h : c ≠ d) : sg1 c ≠ sg1 d := fun z => h (sg1_inj z)
theorem lp_sg : ("(" : Str) = sg1 40 := by decide +kernel
theorem rp_sg : (")" : Str) = sg1 41 := by decide +kernel
theorem nil_ne (c : Nat) : ("" : Str) ≠ sg1 c := fun z => by
  have := congrArg Str.length z
  rw [show ("" : Str).length = 0 by decide +kernel] at this
  exact absurd this (by show ¬ (0 = 1); decide)
theorem nil_regs : decide (("" : Str) ∈ regs5) = false := by decide +kernel
theorem nil_signs : decide (("" : Str) ∈ signs) = false := by decide +kernel
namespace Y
section
variable {P : Program} {w : World} {K : PySem.W.Frag} {mg : Str → Option Value} {base : Heap}
def wAt (K : PySem.W.Frag) (H : Hp) (Q : VK) : Option (Exp × Nat) → Prop
  | none => ∀ H', Same H H' → Q .non H'
  | some (e, q) => ∀ r v H', Same H H' → H' r = some (.tup [v, .int (q : Nat)]) → Dp K H' v e.d → Q (.ref r) H'
def spAt (K : PySem.W.Frag) : Nat → Sp
  | 0 => fun _ _ _ _ => False
  | n + 1 => fun vs H Q _ => ∃ (t : Str) (p : Nat) (deep : Int), vs = [.str t, .int p, .int deep] ∧ deep + n = 6 ∧ p ≤ t.length ∧ t.length ≤ 1000000 ∧ wAt K H Q (atE (TL.tl t) n p)
theorem ca_expression_at (T : Txt w K mg) : ∀ n : Nat, Ca P w K mg base (n + 2) "expression_at" (spAt K n)
  | 0 => ca_false (ps := ["text", "place", "deep"]) T.f_expression_at T.g_expression_at (fun _ _ _ _ _ _ us hl => match us, hl with | [_, _, _], _ => rfl)
  | n + 1 => by
    have ih := ca_expression_at T n
    refine ca_of (N := ["text", "place", "deep", "sign", "left", "right"]) (ps := ["text", "place", "deep"]) T.f_expression_at T.g_expression_at ⟨rfl, rfl, rfl, by decide +kernel, rfl, by decide +kernel, by decide +kernel⟩ (fun _ _ _ _ _ _ us hl => match us, hl with | [_, _, _], _ => rfl)
      (fun vs H Q E h => by obtain ⟨t, p, deep, rfl, h6, hp, hl, q⟩ := h; rfl) (fun cdv A outer s H vs Q E hr h => ?_)
    have nd : (["text", "place", "deep", "sign", "left", "right"] : List Str).Nodup := by decide +kernel
    obtain ⟨t, p, deep, rfl, h6, hp, hl, q⟩ := h
    refine ⟨_, (pss_cons (ps_set (i := 3) nd rfl (.inl rfl) (pe_slice sl_str (pv 0) (po_some (pv 1)) (po_some (pe_op op_add (pv 1) pe_int))))
      (pss_cons (ps_if (pt_chain op_le_str op_le_str pe_str (pv 3) pe_str) (pss_one (ps_ret (pe_tup (pa_cons (pe_callTy call_int_str (by rfl) T.b_int boot_int (pa_cons (pv 3) pa_nil)) (pa_cons (pe_op op_add (pv 1) pe_int) pa_nil))))) pss_nil)
      (pss_cons (ps_if (pt_cmpR op_in_seq (pv 3) (pe_gr T.g_HELD) (by rfl)) (pss_one (ps_ret (pe_tup (pa_cons (pv 3) (pa_cons (pe_op op_add (pv 1) pe_int) pa_nil))))) pss_nil)
      (pss_cons (ps_if (PW.pt (pw_or (pt_cmpR op_ne (pv 3) pe_str (nomark _)) (pw_or1 (pt_cmpR op_eq (pv 2) (pe_gi T.i_DEEPEST_EXPRESSION) (nomark _))))) (pss_one (ps_ret pe_non)) pss_nil)
      (pss_cons (ps_set (i := 4) nd rfl (.inl rfl) (pe_ca ih hr (pa_cons (pv 0) (pa_cons (pe_op op_add (pv 1) pe_int) (pa_cons (pe_op op_add (pv 2) pe_int) pa_nil))) (by omega)))
      (pss_cons (ps_if (PW.pt (pw_or (pt_cmp (pc_isN (pv 4))) (pw_or1 (pt_cmpR op_notIn_seq (pe_slice sl_str (pv 0) (po_some (pe_ix ix_tup (pv 4) pe_int (fun _ _ => rfl))) (po_some (pe_op op_add (pe_ix ix_tup (pv 4) pe_int (fun _ _ => rfl)) pe_int))) (pe_gr T.g_SIGNS) (by rfl))))) (pss_one (ps_ret pe_non)) pss_nil)
      (pss_cons (ps_set (i := 5) nd rfl (.inl rfl) (pe_ca ih hr (pa_cons (pv 0) (pa_cons (pe_op op_add (pe_ix ix_tup (pv 4) pe_int (fun _ _ => rfl)) pe_int) (pa_cons (pe_op op_add (pv 2) pe_int) pa_nil))) (by omega)))
      (pss_cons (ps_if (PW.pt (pw_or (pt_cmp (pc_isN (pv 5))) (pw_or1 (pt_cmpR op_ne (pe_slice sl_str (pv 0) (po_some (pe_ix ix_tup (pv 5) pe_int (fun _ _ => rfl))) (po_some (pe_op op_add (pe_ix ix_tup (pv 5) pe_int (fun _ _ => rfl)) pe_int))) pe_str (nomark _))))) (pss_one (ps_ret pe_non)) pss_nil)
      (pss_one (ps_ret (pe_tup (pa_cons (pe_tup (pa_cons (pe_ix ix_str (pv 0) (pe_ix ix_tup (pv 4) pe_int (fun _ _ => rfl)) (fun _ _ => rfl)) (pa_cons (pe_ix ix_tup (pv 4) pe_int (fun _ _ => rfl)) (pa_cons (pe_ix ix_tup (pv 5) pe_int (fun _ _ => rfl)) pa_nil)))) (pa_cons (pe_op op_add (pe_ix ix_tup (pv 5) pe_int (fun _ _ => rfl)) pe_int) pa_nil))))))))))))), ?_⟩
    refine ⟨_, rfl, _, rfl, _, rfl, _, rfl, _, _, rfl, rfl, _, rfl, t, rfl, by rw [sizeLine_eq]; omega, ?_⟩
    rw [cut_one hp]
    have hd := sq_HELD T H
    have leaf0 : ∀ c, (TL.tl t)[p]? = some c → c ≠ 40 → atE (TL.tl t) n p = atLeaf (TL.tl t) p := by
      intro c e h
      cases n with
      | zero => rfl
      | succ m => exact if_neg (fun z => h (Option.some.inj (e.symm.trans z)))
    cases hc : (TL.tl t)[p]? with
    | none =>
      have e : atE (TL.tl t) n p = none := by
        cases n with
        | zero => show atLeaf _ _ = none; unfold atLeaf; rw [hc]
        | succ m => unfold atE; rw [if_neg (by rw [hc]; exact fun z => nomatch z)]; unfold atLeaf; rw [hc]
      rw [e] at q
      refine ⟨_, rfl, _, _, rfl, rfl, _, rfl, if_gt2_of str_nil_dg ⟨_, rfl, iteF ?_⟩⟩
      refine ⟨_, rfl, _, _, rfl, .inr hd, rfl, flat_strs regs5, _, rfl, ?_⟩
      rw [show inV (.str "") (regs5.map V.str) = false by rw [inV_strs]; exact nil_regs]
      refine iteF ⟨_, rfl, rfl, _, rfl, ?_⟩
      rw [decide_eq_false (show ¬ V.str "" = V.str "(" from fun z => nil_ne 40 ((V.str.inj z).trans lp_sg))]
      exact iteT (iteT (q H (Same.refl _)))
    | some c =>
      have lc := (List.getElem?_eq_some_iff.mp hc).1
      by_cases c1 : 48 ≤ c ∧ c ≤ 57
      · have e : atE (TL.tl t) n p = some (.num ((c : Int) - 48), p + 1) := by
          rw [leaf0 c hc (by omega)]
          unfold atLeaf
          rw [hc]
          exact if_pos c1
        rw [e] at q
        refine ⟨_, rfl, _, _, rfl, rfl, _, rfl, if_true_of (sign_le c1.1) ⟨_, _, rfl, rfl, _, rfl, if_true_of (sign_le c1.2) ?_⟩⟩
        refine ⟨_, rfl, _, _, rfl, dg_of c1, by show 1 ≤ 640; decide, _, rfl, _, _, rfl, rfl, (by show 2 ≤ sizeLine; decide), fun r nr => ?_⟩
        exact q r _ _ (same_new nr) upd_same (.int _)
      have chs : c < 48 ∨ 57 < c := by omega
      rcases chs with ch | ch
      case' inl => refine ⟨_, rfl, _, _, rfl, rfl, _, rfl, if_gt2_of (sign_gt ch) ⟨_, rfl, iteF ?_⟩⟩
      case' inr => refine ⟨_, rfl, _, _, rfl, rfl, _, rfl, if_true_of (sign_le (a := 48) (by omega)) ⟨_, _, rfl, rfl, _, rfl, if_gt2_of (sign_gt ch) ?_⟩⟩
      all_goals
        refine ⟨_, rfl, _, _, rfl, .inr hd, rfl, flat_strs regs5, _, rfl, ?_⟩
        rw [show inV (.str (sg1 c)) (regs5.map V.str) = regC c by rw [inV_strs]; exact sg1_regs c]
        cases c2 : regC c with
        | true =>
          have e : atE (TL.tl t) n p = some (.reg (sg1 c), p + 1) := by
            rw [leaf0 c hc (regC_no c2).2.1]
            exact atLeaf_reg c2 hc
          rw [e] at q
          refine iteT ⟨_, rfl, _, rfl, _, _, rfl, rfl, (by show 2 ≤ sizeLine; decide), fun r nr => ?_⟩
          exact q r _ _ (same_new nr) upd_same (.str _)
        | false =>
          refine iteF ⟨_, rfl, rfl, _, rfl, ?_⟩
          by_cases c40 : c = 40
          case neg =>
            have e : atE (TL.tl t) n p = none := by
              rw [leaf0 c hc c40]
              unfold atLeaf
              rw [hc]
              dsimp only
              rw [if_neg c1, if_neg (by rw [c2]; decide)]
            rw [e] at q
            rw [decide_eq_false (show ¬ V.str (sg1 c) = V.str "(" from fun z => sg1_ne c40 ((V.str.inj z).trans lp_sg))]
            exact iteT (iteT (q H (Same.refl _)))
          subst c40
          rw [decide_eq_true (show V.str (sg1 40) = V.str "(" by rw [lp_sg])]
          refine iteF ⟨_, rfl, rfl, _, rfl, ?_⟩
          cases n with
          | zero =>
            have e : atE (TL.tl t) 0 p = none := by
              show atLeaf _ _ = none
              unfold atLeaf
              rw [hc]
              rfl
            rw [e] at q
            rw [decide_eq_true (show V.int deep = V.int 6 from congrArg V.int (by omega))]
            exact iteT (q H (Same.refl _))
          | succ m =>
            rw [decide_eq_false (show ¬ V.int deep = V.int 6 from fun e => by have := V.int.inj e; omega)]
            refine iteF ⟨_, rfl, _, rfl, _, _, rfl, rfl, _, rfl, _, _, rfl, rfl, t, p + 1, deep + 1, rfl, by omega, by rw [tl_len]; omega, hl, ?_⟩
            have ea : atE (TL.tl t) (m + 1) p = match atE (TL.tl t) m (p + 1) with
              | none => none
              | some (a, q) => match (TL.tl t)[q]? with
                | none => none
                | some s => if opC s = true then
                    match atE (TL.tl t) m (q + 1) with
                    | none => none
                    | some (b, r) => if (TL.tl t)[r]? = some 41 then some (.op (sg1 s) a b, r + 1) else none
                  else none := if_pos hc
            rw [ea] at q
            have nx : (((p : Nat) : Int) + 1) = ((p + 1 : Nat) : Int) := by omega
            cases hA : atE (TL.tl t) m (p + 1) with
            | none =>
              rw [hA] at q
              exact fun H1 s1 => ⟨_, rfl, _, rfl, iteT (iteT (q H1 s1))⟩
            | some aq =>
              obtain ⟨a, q1⟩ := aq
              rw [hA] at q
              dsimp only at q
              obtain ⟨oa, da, la, ka⟩ := atE_ok hA
              intro l va H1 s1 hl1 dva
              have tl1 : SqT K H1 l [va, .int (q1 : Nat)] := .of hl1
              have tl9 : q1 ≤ t.length := by rw [tl_len]; omega
              have slen : t.length ≤ sizeLine := by rw [sizeLine_eq]; omega
              refine ⟨_, rfl, _, rfl, iteF ?_⟩
              refine ⟨_, rfl, _, rfl, _, _, _, _, rfl, rfl, tl1, at1, _, rfl, _, rfl, _, _, _, _, rfl, rfl, tl1, at1, _, _, rfl, rfl, _, rfl, t, rfl, slen, ?_⟩
              rw [cut_one tl9]
              cases hs : (TL.tl t)[q1]? with
              | none =>
                rw [hs] at q
                refine ⟨_, _, rfl, .inr (sq_SIGNS T H1), rfl, flat_strs signs, _, rfl, ?_⟩
                rw [show inV (.str "") (signs.map V.str) = false by rw [inV_strs]; exact nil_signs]
                exact if_true_of rfl (q H1 s1)
              | some sc =>
                rw [hs] at q
                dsimp only at q
                refine ⟨_, _, rfl, .inr (sq_SIGNS T H1), rfl, flat_strs signs, _, rfl, ?_⟩
                rw [show inV (.str (sg1 sc)) (signs.map V.str) = opC sc by rw [inV_strs]; exact sg1_signs sc]
                cases cs : opC sc with
                | false =>
                  rw [if_neg (by rw [cs]; decide)] at q
                  exact if_true_of rfl (q H1 s1)
                | true =>
                  rw [if_pos cs] at q
                  have lq := (List.getElem?_eq_some_iff.mp hs).1
                  have nq : (((q1 : Nat) : Int) + 1) = ((q1 + 1 : Nat) : Int) := by omega
                  refine if_gt2_of rfl ⟨_, rfl, _, rfl, _, _, _, _, rfl, rfl, tl1, at1, _, _, rfl, rfl, _, rfl, _, _, rfl, rfl, t, q1 + 1, deep + 1, rfl, by omega, by rw [tl_len]; omega, hl, ?_⟩
                  cases hB : atE (TL.tl t) m (q1 + 1) with
                  | none =>
                    rw [hB] at q
                    exact fun H2 s2 => ⟨_, rfl, _, rfl, iteT (iteT (q H2 (s1.trans s2)))⟩
                  | some br =>
                    obtain ⟨b, r1⟩ := br
                    rw [hB] at q
                    dsimp only at q
                    obtain ⟨ob, db, lb, kb⟩ := atE_ok hB
                    intro rr vb H2 s2 hr2 dvb
                    have tl2 : SqT K H2 rr [vb, .int (r1 : Nat)] := .of hr2
                    have tl1b : SqT K H2 l [va, .int (q1 : Nat)] := .of (s2 _ _ hl1)
                    have tl9b : r1 ≤ t.length := by rw [tl_len]; omega
                    refine ⟨_, rfl, _, rfl, iteF ?_⟩
                    refine ⟨_, rfl, _, rfl, _, _, _, _, rfl, rfl, tl2, at1, _, rfl, _, rfl, _, _, _, _, rfl, rfl, tl2, at1, _, _, rfl, rfl, _, rfl, t, rfl, slen, ?_⟩
                    rw [cut_one tl9b]
                    refine ⟨rfl, _, rfl, ?_⟩
                    have fin : ∀ z : Str, (z = ")" ↔ (TL.tl t)[r1]? = some 41) → (match (TL.tl t)[r1]? with | some c => sg1 c | none => "") = z → True := fun _ _ _ => trivial
                    clear fin
                    cases hr1 : (TL.tl t)[r1]? with
                    | none =>
                      rw [if_neg (by rw [hr1]; exact fun z => nomatch z)] at q
                      rw [decide_eq_false (show ¬ V.str "" = V.str ")" from fun z => nil_ne 41 ((V.str.inj z).trans rp_sg))]
                      exact iteT (q H2 (s1.trans s2))
                    | some rc =>
                      by_cases h41 : rc = 41
                      case neg =>
                        rw [if_neg (by rw [hr1]; exact fun z => h41 (Option.some.inj z))] at q
                        rw [decide_eq_false (show ¬ V.str (sg1 rc) = V.str ")" from fun z => sg1_ne h41 ((V.str.inj z).trans rp_sg))]
                        exact iteT (q H2 (s1.trans s2))
                      subst h41
                      rw [if_pos hr1] at q
                      rw [decide_eq_true (show V.str (sg1 41) = V.str ")" by rw [rp_sg])]
                      have hat : atI t.cps.toList ((q1 : Nat) : Int) = some sc := atI_nat hs
                      refine iteF ⟨_, rfl, _, rfl, _, _, _, _, rfl, rfl, tl1b, at1, _, _, sc, rfl, rfl, slen, hat, _, rfl, _, _, _, _, rfl, rfl, tl1b, at0, _, rfl, _, _, _, _, rfl, rfl, tl2, at0, (by show 3 ≤ sizeLine; decide), fun u nu => ?_⟩
                      have s3 := same_new (o := .tup [.str ⟨#[sc]⟩, va, vb]) nu
                      have hu : upd H2 u (.tup [.str ⟨#[sc]⟩, va, vb]) u = some (.tup [.str ⟨#[sc]⟩, va, vb]) := upd_same
                      refine ⟨_, rfl, _, _, _, _, rfl, rfl, same_t s3 tl2, at1, _, _, rfl, rfl, (by show 2 ≤ sizeLine; decide), fun z nz => ?_⟩
                      have s4 := same_new (o := .tup [.ref u, .int ((r1 : Nat) + 1)]) nz
                      have s24 := s2.trans (s3.trans s4)
                      exact q z _ _ (s1.trans s24) upd_same (.tup (.of (s4 _ _ hu)) (.cons (.str _) (.cons (dp_same s24 dva) (.cons (dp_same (s3.trans s4) dvb) .nil))))
def spIn (K : PySem.W.Frag) : Sp := fun vs H Q _ => ∃ (t : Str), vs = [.str t] ∧ t.length ≤ 1000000 ∧ (match inE (TL.tl t) with
  | none => ∀ H', Same H H' → Q .non H'
  | some e => ∀ v H', Same H H' → Dp K H' v e.d → Q v H')
theorem ca_expression_in (T : Txt w K mg) : Ca P w K mg base 10 "expression_in" (spIn K) := by
  refine ca_of (N := ["word", "found"]) (ps := ["word"]) T.f_expression_in T.g_expression_in ⟨rfl, rfl, rfl, by decide +kernel, rfl, by decide +kernel, by decide +kernel⟩ (fun _ _ _ _ _ _ us hl => match us, hl with | [_], _ => rfl)
    (fun vs H Q E h => by obtain ⟨t, rfl, hl, q⟩ := h; rfl) (fun cdv A outer s H vs Q E hr h => ?_)
  have nd : (["word", "found"] : List Str).Nodup := by decide +kernel
  obtain ⟨t, rfl, hl, q⟩ := h
  refine ⟨_, (pss_cons (ps_set (i := 1) nd rfl (.inl rfl) (pe_ca (ca_expression_at T 7) hr (pa_cons (pv 0) (pa_cons pe_int (pa_cons pe_int pa_nil)))))
      (pss_one (ps_ret (pe_ifExp (PW.pt (pw_and (pt_cmp (pc_notN (pv 1))) (pw_and1 (pt_cmpR op_eq (pe_ix ix_tup (pv 1) pe_int (fun _ _ => rfl)) (pe_callB call_len_str (by rfl) T.b_len PySem.boot_len (pa_cons (pv 0) pa_nil)) (nomark _))))) (pe_ix ix_tup (pv 1) pe_int (fun _ _ => rfl)) pe_non)))), ?_⟩
  refine ⟨_, rfl, t, 0, 0, rfl, by decide, Nat.zero_le _, hl, ?_⟩
  unfold inE at q
  cases hA : atE (TL.tl t) 6 0 with
  | none =>
    rw [hA] at q
    exact fun H1 s1 => ⟨_, rfl, _, rfl, iteF (q H1 s1)⟩
  | some eq =>
    obtain ⟨e, p⟩ := eq
    rw [hA] at q
    dsimp only at q
    intro r v H1 s1 hr1 dv
    have tr : SqT K H1 r [v, .int (p : Nat)] := .of hr1
    refine ⟨_, rfl, _, rfl, iteT ⟨_, rfl, _, _, _, _, rfl, rfl, tr, at1, _, rfl, _, rfl, by rw [sizeLine_eq]; omega, rfl, _, rfl, ?_⟩⟩
    by_cases c : p = (TL.tl t).length
    · rw [if_pos c] at q
      rw [decide_eq_true (show V.int (p : Nat) = V.int (t.length : Nat) by rw [c, tl_len])]
      exact iteT ⟨_, rfl, _, _, _, _, rfl, rfl, tr, at0, q v H1 s1 dv⟩
    · rw [if_neg c] at q
      rw [decide_eq_false (show ¬ V.int (p : Nat) = V.int (t.length : Nat) from fun z => c (by have := V.int.inj z; rw [tl_len] at this; omega))]
      exact iteF (q H1 s1)
def rdO : Od → Option Exp
  | .lf (.str s) => inE (TL.tl s)
  | _ => none
def lenO : Od → Prop
  | .lf (.str s) => s.length ≤ 100000
  | _ => True
def spRE (K : PySem.W.Frag) : Sp := fun vs H Q E => ∃ (v : V) (o : Od), vs = [v] ∧ Oa K H v o ∧ lenO o ∧ (match rdO o with
  | some e => ∀ v' H', Same H H' → Dp K H' v' e.d → Q v' H'
  | none => ∀ H', Same H H' → E (.ref (He.ga K "NoExpression")) none H')
theorem cx_read_expression (T : Txt w K mg) : CaX P w K mg base 11 "read_expression" (spRE K) := by
  refine ca_ofX (N := ["text", "e"]) (ps := ["text"]) T.f_read_expression T.g_read_expression ⟨rfl, rfl, rfl, by decide +kernel, rfl, by decide +kernel, by decide +kernel⟩ (fun _ _ _ _ _ _ us hl => match us, hl with | [_], _ => rfl)
    (fun vs H Q E h => by obtain ⟨v, o, rfl, ho, hl, q⟩ := h; rfl) (fun cdv A outer s H vs Q E hr h => ?_)
  have nd : (["text", "e"] : List Str).Nodup := by decide +kernel
  obtain ⟨v, o, rfl, ho, hl, q⟩ := h
  refine ⟨_, (pss_cons (ps_set (i := 1) nd rfl (.inl rfl) (pe_ifExp (pt_val (pe_is .str T.b_isinstance (pv 0) T.b_str boot_str)) (pe_ca (ca_expression_in T) hr (pa_cons (pv 0) pa_nil)) pe_non))
      (pss_cons (ps_if (pt_cmp (pc_isN (pv 1))) (pss_one (ps_raise0 K rfl PySem.F.excBase_ValueError T.x_NoExpression T.g_NoExpression rfl (takes_of rfl rfl rfl rfl))) pss_nil)
      (pss_one (ps_ret (pv 1))))), ?_⟩
  have kd := oa_kd ho
  have no : rdO o = none → ∀ H', Same H H' → E (.ref (He.ga K "NoExpression")) none H' := fun e => by
    rw [e] at q
    exact q
  refine ⟨_, rfl, _, _, rfl, kd, _, rfl, ?_⟩
  cases ho with
  | lf h n =>
    cases h with
    | str s =>
      have hl : s.length ≤ 100000 := hl
      have e0 : rdO (.lf (.str s)) = inE (TL.tl s) := rfl
      rw [e0] at q
      refine iteT ⟨_, rfl, s, rfl, by omega, ?_⟩
      cases hA : inE (TL.tl s) with
      | none =>
        rw [hA] at q
        exact fun H1 s1 => ⟨_, rfl, _, rfl, iteT (q H1 s1)⟩
      | some e =>
        rw [hA] at q
        intro v1 H1 s1 dv
        have nv : v1 ≠ .non := fun z => by
          subst z
          cases e <;> cases dv
        refine ⟨_, rfl, _, rfl, ?_⟩
        rw [decide_eq_false nv]
        exact iteF ⟨_, rfl, q v1 H1 s1 dv⟩
    | _ => exact iteF ⟨_, rfl, _, rfl, iteT (no rfl H (Same.refl _))⟩
  | dic h => exact iteF ⟨_, rfl, _, rfl, iteT (no rfl H (Same.refl _))⟩
  | t3 h hs ha hb => exact iteF ⟨_, rfl, _, rfl, iteT (no rfl H (Same.refl _))⟩
end
end Y

end M

set_option Elab.async false
set_option linter.all false
set_option maxRecDepth 100000
set_option maxHeartbeats 2000000
namespace M
open PySem PySem.Spec PyProof.Rows L2

/-! ### drawn expressions -/
theorem but_del {D : Addr} {H H' : Hp} (s : But D H H') : Same (del H D) (del H' D) := fun b o e => by
  by_cases h : b = D
  · rw [h, del_same] at e
    cases e
  · rw [del_ne h] at e ⊢
    exact s _ _ h e
theorem del_sub {D : Addr} {H : Hp} : Same (del H D) H := fun b o e => by
  by_cases h : b = D
  · rw [h, del_same] at e
    cases e
  · rw [del_ne h] at e
    exact e
theorem same_del {D : Addr} {H H' : Hp} (n : H D = none) (s : Same H H') : Same H (del H' D) := fun b o e => by
  rw [del_ne (ne_of_none e n)]
  exact s _ _ e
theorem del_mono {D : Addr} {H H' : Hp} (s : Same H H') : Same (del H D) (del H' D) := but_del (same_but s)
def atX (i : Int) : Nat := if i = 0 then 97 else if i = 1 then 98 else if i = 2 then 99 else if i = 3 then 100 else 120
def atS (i : Int) : Nat := if i = 0 then 43 else if i = 1 then 45 else if i = 2 then 42 else if i = 3 then 61 else 60
theorem at_x {i : Int} (h : 0 ≤ i ∧ i < 5) : atI ("abcdx" : Str).cps.toList i = some (atX i) ∧ regC (atX i) = true := by
  have : i = 0 ∨ i = 1 ∨ i = 2 ∨ i = 3 ∨ i = 4 := by omega
  rcases this with rfl | rfl | rfl | rfl | rfl <;> decide +kernel
theorem at_s {i : Int} (h : 0 ≤ i ∧ i < 5) : atI ("+-*=<" : Str).cps.toList i = some (atS i) ∧ opC (atS i) = true := by
  have : i = 0 ∨ i = 1 ∨ i = 2 ∨ i = 3 ∨ i = 4 := by omega
  rcases this with rfl | rfl | rfl | rfl | rfl <;> decide +kernel
namespace Y
section
variable {P : Program} {w : World} {K : PySem.W.Frag} {mg : Str → Option Value} {base : Heap}
def spLeaf (K : PySem.W.Frag) : Sp := fun vs H Q _ => ∃ (p : Addr), vs = [.ref p] ∧ PoolAt H p ∧ ∀ (v : V) (e : Exp) (H' : Hp), But p H H' → PoolAt H' p → Dp K H' v e.d → EOk 0 e → Q v H'
theorem ca_l_leaf (T : Txt w K mg) : Ca P w K mg base 2 "_law_leaf" (spLeaf K) := by
  refine ca_of (N := ["_law_pool_here"]) (ps := ["_law_pool_here"]) T.f_l_leaf T.g_law_leaf ⟨rfl, rfl, rfl, by decide +kernel, rfl, by decide +kernel, by decide +kernel⟩ (fun _ _ _ _ _ _ us hl => match us, hl with | [_], _ => rfl)
    (fun vs H Q E h => by obtain ⟨p, rfl, hp, q⟩ := h; rfl) (fun cdv A outer s H vs Q E hr h => ?_)
  have nd : (["_law_pool_here"] : List Str).Nodup := by decide +kernel
  obtain ⟨p, rfl, hp, q⟩ := h
  refine ⟨_, (pss_cons (ps_if (pt_cmpR op_eq (pe_ca (ca_l_draw T) hr (pa_cons (pv 0) (pa_cons pe_int pa_nil))) pe_int (nomark _)) (pss_one (ps_ret (pe_ca (ca_l_draw T) hr (pa_cons (pv 0) (pa_cons pe_int pa_nil))))) pss_nil)
      (pss_one (ps_ret (pe_ix ix_str pe_str (pe_ca (ca_l_draw T) hr (pa_cons (pv 0) (pa_cons pe_int pa_nil))) (fun _ _ => rfl))))), ?_⟩
  refine ⟨_, rfl, p, 3, rfl, hp, by omega, fun i H1 b1 p1 hi => ⟨rfl, _, rfl, ?_⟩⟩
  by_cases c : i = 0
  · rw [decide_eq_true (show V.int i = V.int 0 from congrArg V.int c)]
    exact iteT ⟨_, rfl, p, 10, rfl, p1, by omega, fun k H2 b2 p2 hk => q _ (.num k) _ (b1.trans b2) p2 (.int k) (by simp only [EOk]; omega)⟩
  · rw [decide_eq_false (show ¬ V.int i = V.int 0 from fun z => c (V.int.inj z))]
    refine iteF ⟨_, rfl, p, 5, rfl, p1, by omega, fun k H2 b2 p2 hk => ?_⟩
    obtain ⟨e1, e2⟩ := at_x hk
    exact ⟨_, k, _, rfl, rfl, by decide +kernel, e1, q _ (.reg (sg1 (atX k))) _ (b1.trans b2) p2 (.str _) (by simp only [EOk]; exact ⟨_, rfl, e2⟩)⟩
def spTree (K : PySem.W.Frag) : Nat → Sp
  | 0 => fun _ _ _ _ => False
  | n + 1 => fun vs H Q _ => ∃ (p : Addr) (d : Nat), vs = [.ref p, .int d] ∧ d ≤ n ∧ n ≤ 7 ∧ PoolAt H p ∧ ∀ (v : V) (e : Exp) (H' : Hp), But p H H' → PoolAt H' p → Dp K H' v e.d → EOk d e → Q v H'
theorem ca_l_tree (T : Txt w K mg) : ∀ n : Nat, Ca P w K mg base (n + 4) "_law_tree" (spTree K n)
  | 0 => ca_false (ps := ["_law_pool_here", "_law_depth"]) T.f_l_tree T.g_law_tree (fun _ _ _ _ _ _ us hl => match us, hl with | [_, _], _ => rfl)
  | n + 1 => by
    have ih := ca_l_tree T n
    refine ca_of (N := ["_law_pool_here", "_law_depth", "_law_sign_here", "_law_side", "_law_other", "_law_deep"]) (ps := ["_law_pool_here", "_law_depth"]) T.f_l_tree T.g_law_tree ⟨rfl, rfl, rfl, by decide +kernel, rfl, by decide +kernel, by decide +kernel⟩ (fun _ _ _ _ _ _ us hl => match us, hl with | [_, _], _ => rfl)
      (fun vs H Q E h => by obtain ⟨p, d, rfl, hd, hn, hp, q⟩ := h; rfl) (fun cdv A outer s H vs Q E hr h => ?_)
    have nd : (["_law_pool_here", "_law_depth", "_law_sign_here", "_law_side", "_law_other", "_law_deep"] : List Str).Nodup := by decide +kernel
    obtain ⟨p, d, rfl, hd, hn, hp, q⟩ := h
    refine ⟨_, (pss_cons (ps_if (pt_cmpR op_eq (pv 1) pe_int (nomark _)) (pss_one (ps_ret (pe_ca (ca_l_leaf T) hr (pa_cons (pv 0) pa_nil) (by omega)))) pss_nil)
      (pss_cons (ps_set (i := 2) nd rfl (.inl rfl) (pe_ix ix_str pe_str (pe_ca (ca_l_draw T) hr (pa_cons (pv 0) (pa_cons pe_int pa_nil)) (by omega)) (fun _ _ => rfl)))
      (pss_cons (ps_set (i := 3) nd rfl (.inl rfl) (pe_ca (ca_l_draw T) hr (pa_cons (pv 0) (pa_cons pe_int pa_nil)) (by omega)))
      (pss_cons (ps_set (i := 4) nd rfl (.inl rfl) (pe_ca ih hr (pa_cons (pv 0) (pa_cons (pe_ca (ca_l_draw T) hr (pa_cons (pv 0) (pa_cons (pv 1) pa_nil)) (by omega)) pa_nil)) (by omega)))
      (pss_cons (ps_set (i := 5) nd rfl (.inl rfl) (pe_ca ih hr (pa_cons (pv 0) (pa_cons (pe_op op_sub (pv 1) pe_int) pa_nil)) (by omega)))
      (pss_cons (ps_if (pt_cmpR op_eq (pv 3) pe_int (nomark _)) (pss_one (ps_ret (pe_tup (pa_cons (pv 2) (pa_cons (pv 5) (pa_cons (pv 4) pa_nil)))))) pss_nil)
      (pss_one (ps_ret (pe_tup (pa_cons (pv 2) (pa_cons (pv 4) (pa_cons (pv 5) pa_nil)))))))))))), ?_⟩
    refine ⟨_, rfl, rfl, _, rfl, ?_⟩
    cases d with
    | zero =>
      exact iteT ⟨_, rfl, p, rfl, hp, fun v e H1 b1 p1 dv ok => q v e H1 b1 p1 dv ok⟩
    | succ m =>
      rw [decide_eq_false (show ¬ V.int ((m + 1 : Nat) : Int) = V.int 0 from fun z => by have := V.int.inj z; omega)]
      obtain ⟨k, rfl⟩ : ∃ k, n = k + 1 := ⟨n - 1, by omega⟩
      refine iteF ⟨_, rfl, p, 5, rfl, hp, by omega, fun i H1 b1 p1 hi => ?_⟩
      obtain ⟨e1, e2⟩ := at_s hi
      refine ⟨_, i, _, rfl, rfl, by decide +kernel, e1, _, rfl, p, 2, rfl, p1, by omega, fun sd H2 b2 p2 hsd => ?_⟩
      refine ⟨_, rfl, _, rfl, _, rfl, p, ((m + 1 : Nat) : Int), rfl, p2, by omega, fun j H3 b3 p3 hj => ?_⟩
      refine ⟨p, j.toNat, by rw [Int.toNat_of_nonneg hj.1]; rfl, by omega, by omega, p3, fun vo eo' H4 b4 p4 dvo oko => ?_⟩
      refine ⟨_, rfl, _, rfl, _, _, rfl, rfl, p, m, by show [V.ref p, V.int (((m + 1 : Nat) : Int) - 1)] = _; rw [show (((m + 1 : Nat) : Int) - 1) = (m : Int) by omega], by omega, by omega, p4, fun vd ed H5 b5 p5 dvd okd => ?_⟩
      have dvo5 := dp_but p4.ch b5 dvo eo'.noL
      have b15 := (((b1.trans b2).trans b3).trans b4).trans b5
      have oko := oko.up (show j.toNat ≤ m by omega)
      refine ⟨_, rfl, rfl, _, rfl, ?_⟩
      by_cases c : sd = 0
      · rw [decide_eq_true (show V.int sd = V.int 0 from congrArg V.int c)]
        refine iteT ⟨_, rfl, _, rfl, _, rfl, (by show 3 ≤ sizeLine; decide), fun t nt => ?_⟩
        have s6 := same_new (o := .tup [.str ⟨#[atS i]⟩, vd, vo]) nt
        exact q _ (.op (sg1 (atS i)) ed eo') _ (b15.trans (same_but s6)) (p5.same s6) (.tup (.of upd_same) (.cons (.str _) (.cons (dp_same s6 dvd) (.cons (dp_same s6 dvo5) .nil)))) ⟨⟨_, rfl, e2⟩, okd, oko⟩
      · rw [decide_eq_false (show ¬ V.int sd = V.int 0 from fun z => c (V.int.inj z))]
        refine iteF ⟨_, rfl, _, rfl, _, rfl, (by show 3 ≤ sizeLine; decide), fun t nt => ?_⟩
        have s6 := same_new (o := .tup [.str ⟨#[atS i]⟩, vo, vd]) nt
        exact q _ (.op (sg1 (atS i)) eo' ed) _ (b15.trans (same_but s6)) (p5.same s6) (.tup (.of upd_same) (.cons (.str _) (.cons (dp_same s6 dvo5) (.cons (dp_same s6 dvd) .nil)))) ⟨⟨_, rfl, e2⟩, oko, okd⟩
def spLTx (K : PySem.W.Frag) : Nat → Sp
  | 0 => fun _ _ _ _ => False
  | n + 1 => fun vs H Q _ => ∃ (v : V) (e : Exp), vs = [v] ∧ Dp K H v e.d ∧ EOk n e ∧ n ≤ 7 ∧ Q (.str (estr e)) H
theorem ca_l_text (T : Txt w K mg) : ∀ n : Nat, Ca P w K mg base (n + 3) "_law_text" (spLTx K n)
  | 0 => ca_false (ps := ["_law_e"]) T.f_l_text T.g_law_text (fun _ _ _ _ _ _ us hl => match us, hl with | [_], _ => rfl)
  | n + 1 => by
    have ih := ca_l_text T n
    refine ca_of (N := ["_law_e"]) (ps := ["_law_e"]) T.f_l_text T.g_law_text ⟨rfl, rfl, rfl, by decide +kernel, rfl, by decide +kernel, by decide +kernel⟩ (fun _ _ _ _ _ _ us hl => match us, hl with | [_], _ => rfl)
      (fun vs H Q E h => by obtain ⟨v, e, rfl, hv, ok, hn, q⟩ := h; rfl) (fun cdv A outer s H vs Q E hr h => ?_)
    have nd : (["_law_e"] : List Str).Nodup := by decide +kernel
    obtain ⟨v, e, rfl, hv, ok, hn, q⟩ := h
    refine ⟨_, (pss_cons (ps_if (pt_val (pe_is .tuple T.b_isinstance (pv 0) T.b_tuple boot_tuple)) (pss_one (ps_ret (pe_op op_add_str (pe_op op_add_str (pe_op op_add_str (pe_op op_add_str pe_str (pe_ca ih hr (pa_cons (pe_ix ix_tup (pv 0) pe_int (fun _ _ => rfl)) pa_nil) (by omega))) (pe_ix ix_tup (pv 0) pe_int (fun _ _ => rfl))) (pe_ca ih hr (pa_cons (pe_ix ix_tup (pv 0) pe_int (fun _ _ => rfl)) pa_nil) (by omega))) pe_str))) pss_nil)
      (pss_one (ps_ret (pe_callTy call_str_any (by rfl) T.b_str boot_str (pa_cons (pv 0) pa_nil))))), ?_⟩
    cases e with
    | num i =>
      cases dp_int hv
      have b := ok.num_ok
      refine ⟨_, rfl, _, _, rfl, .int i, _, rfl, iteF ⟨_, rfl, .inl ⟨_, rfl, dig_log b, ?_⟩⟩⟩
      rw [dig_str b]
      exact q
    | reg r =>
      cases dp_str hv
      exact ⟨_, rfl, _, _, rfl, .str r, _, rfl, iteF ⟨_, rfl, .inr ⟨_, rfl, q⟩⟩⟩
    | op s a b =>
      obtain ⟨m, rfl, ⟨c, rfl, hc⟩, oa, ob⟩ := ok.op_ok
      obtain ⟨t, x, y, z, rfl, ht, hx, hy, hz⟩ := dp3 hv
      cases dp_str hx
      have la := etx_509 oa (by omega)
      have lb := etx_509 ob (by omega)
      have l1 : (sg1 c).length = 1 := rfl
      refine ⟨_, rfl, _, _, rfl, .tuple ht, _, rfl, iteT ?_⟩
      refine ⟨_, rfl, _, _, _, _, rfl, rfl, ht, at1, y, a, rfl, hy, oa, by omega, _, _, rfl, rfl, by rw [sizeLine_eq, l_lp, estr_len]; omega, _, rfl, _, _, _, _, rfl, rfl, ht, at0, _, _, rfl, rfl, by rw [sizeLine_eq, len_app, l_lp, estr_len, l1]; omega, ?_⟩
      refine ⟨_, rfl, _, _, _, _, rfl, rfl, ht, at2, z, b, rfl, hz, ob, by omega, _, _, rfl, rfl, by rw [sizeLine_eq, len_app, len_app, l_lp, estr_len, estr_len, l1]; omega, _, _, rfl, rfl, by rw [sizeLine_eq, len_app, len_app, len_app, l_lp, l_rp, estr_len, estr_len, l1]; omega, ?_⟩
      rw [estr_op]
      exact q
end
end Y

end M

set_option Elab.async false
set_option linter.all false
set_option maxRecDepth 100000
set_option maxHeartbeats 2000000
namespace M
open PySem PySem.Spec PyProof.Rows L2

section
variable {X : Cx} {K : PySem.W.Frag} {B : Hp} {e : Expr} {es : List Expr} {pos : Pos} {d : PyData} {o : Od} {os : List Od}
def tOt (K : PySem.W.Frag) (B : Hp) (o : Od) : TE := fun _ H Q => Same B H ∧ ∀ v H', Same H H' → Oa K (less B H') v o → Q v H'
def tOs (K : PySem.W.Frag) (B : Hp) (os : List Od) : TA := fun _ H Q => Same B H ∧ ∀ vs H', Same H H' → Paired (Oa K (less B H')) vs os → Q vs H'
theorem oas_same {H H' : Hp} (s : Same H H') : ∀ {vs : List V} {os : List Od}, Paired (Oa K H) vs os → Paired (Oa K H') vs os
  | _, _, .nil => .nil
  | _, _, .cons h t => .cons (h.same s) (oas_same s t)
theorem oas_app {H : Hp} : ∀ {vs ws : List V} {os us : List Od}, Paired (Oa K H) vs os → Paired (Oa K H) ws us → Paired (Oa K H) (vs ++ ws) (os ++ us)
  | _, _, _, _, .nil, r => r
  | _, _, _, _, .cons h t, r => .cons h (oas_app t r)
theorem oas_at {H : Hp} : ∀ {vs : List V} {os : List Od} {i : Nat} {v : V}, Paired (Oa K H) vs os → vs[i]? = some v → ∃ o, os[i]? = some o ∧ Oa K H v o
  | _, _, _, _, .nil, h => by simp at h
  | _, _, 0, _, .cons h _, e => by
    cases (Option.some.inj e)
    exact ⟨_, rfl, h⟩
  | _, _, i + 1, _, .cons _ t, e => oas_at (i := i) t e
theorem wo_of (h : PE X e (tDt K B d)) : PE X e (tOt K B (od d)) := pe_imp h fun _ _ _ q => ⟨q.1, fun v H1 s1 dv => q.2 v H1 s1 (oa_of dv)⟩
theorem wo_dic : PE X (.Dict [] [] pos) (tOt K B .dic) := pe_imp pe_dnewK fun _ _ _ q => fun a na => q.2 _ _ (same_new na) (.dic (less_new (none_of q.1 na)))
theorem wo_nil : PA X [] (tOs K B []) := pa_impW pa_nil fun _ H _ q => q.2 [] H (Same.refl _) .nil
theorem wo_cons (he : PE X e (tOt K B o)) (ht : PA X es (tOs K B os)) (hs : starEach (e :: es) X.env = (false, eval e X.env) :: starEach es X.env := by rfl) : PA X (e :: es) (tOs K B (o :: os)) :=
  pa_impW (pa_cons he ht hs) fun _ _ _ q => ⟨q.1, fun v H1 s1 dv => ⟨q.1.trans s1, fun vs H2 s2 dvs => q.2 _ H2 (s1.trans s2) (.cons (dv.same (less_same s2)) dvs)⟩⟩
theorem woK (K : PySem.W.Frag) (B : Hp) (h : PA X es (tOs K B os)) : PA X es (tOs K B os) := h
theorem cat_stepO {σ : L2.St} {B G : Hp} {l : Addr} {xs : List V} {ds es : List Od} {Q : VK} (r : Same B G) (a : G l = some (.lst xs)) (d : Paired (Oa K (less B G)) xs ds) (len : ds.length + es.length ≤ 1000)
    (k : ∀ (p : Addr) (ys : List V) (G' : Hp), Same B G' → G' p = some (.lst ys) → Paired (Oa K (less B G')) ys (ds ++ es) → Q (.ref p) G') : tLst (tOs K B es) σ G (fun y H2 => rCat (.ref l) y H2 Q) := by
  refine ⟨r, fun vs H2 s2 d2 => ?_⟩
  have l1 := Paired.length d
  have l2 := Paired.length d2
  refine ⟨by rw [l2, sizeLine_eq]; omega, ?_⟩
  intro m nm
  have t2 := same_new (o := .lst vs) nm
  refine ⟨l, m, xs, vs, rfl, rfl, t2 _ _ (s2 _ _ a), upd_same, by rw [l1, l2, sizeLine_eq]; omega, ?_⟩
  intro p np
  have t3 := same_new (o := .lst (xs ++ vs)) np
  exact k p _ _ (r.trans (s2.trans (t2.trans t3))) upd_same (oas_app (oas_same (less_same (s2.trans (t2.trans t3))) d) (oas_same (less_same (t2.trans t3)) d2))
end
def okOB : Od → Bool
  | .lf d => fitB 5 d
  | .dic => true
  | .t3 s a b => fitB 5 s && (okOB a && okOB b)
theorem okOB_ok : ∀ {o : Od}, okOB o = true → okO o
  | .lf _, h => fitB_ok h
  | .dic, _ => trivial
  | .t3 _ _ _, h => ⟨fitB_ok (He.ba h).1, okOB_ok (He.ba (He.ba h).2).1, okOB_ok (He.ba (He.ba h).2).2⟩
def lenOB : Od → Bool
  | .lf (.str s) => decide (s.length ≤ 100000)
  | _ => true
def oddOB (o : Od) : Bool := okOB o && lenOB o
theorem strOk_sg {c : Nat} (h : c < 1114112) : fit 5 (.str (sg1 c)) := by
  refine ⟨by show 1 ≤ 1000000; decide, ?_⟩
  unfold PyData.strOk
  rw [Array.all_eq_true']
  intro x hx
  have hx : x ∈ (#[c] : Array Nat) := hx
  rw [Array.mem_singleton.mp hx]
  exact decide_eq_true h
theorem okO_exp : ∀ {n : Nat} {e : Exp}, EOk n e → okO (eo e)
  | _, .num i, _ => trivial
  | _, .reg r, h => by
    obtain ⟨c, rfl, hc⟩ := h.reg_ok
    exact strOk_sg (by rcases regC_cases hc with rfl | rfl | rfl | rfl | rfl <;> decide)
  | _, .op s a b, h => by
    obtain ⟨m, rfl, ⟨c, rfl, hc⟩, ha, hb⟩ := h.op_ok
    exact ⟨strOk_sg (by rcases opC_cases hc with rfl | rfl | rfl | rfl | rfl <;> decide), okO_exp ha, okO_exp hb⟩
namespace Y
theorem lenOB_ok {o : Od} (h : lenOB o = true) : lenO o := by
  cases o with
  | lf d =>
    cases d with
    | str s =>
      show s.length ≤ 100000
      exact of_decide_eq_true h
    | _ => trivial
  | _ => trivial
section
variable {P : Program} {w : World} {K : PySem.W.Frag} {mg : Str → Option Value} {base : Heap}
def spOdd (K : PySem.W.Frag) : Sp := fun vs H Q _ => ∃ (k : Int), vs = [.int k] ∧ ∀ v o H', Same H H' → Oa K (less H H') v o → okO o → lenO o → Q v H'
theorem ca_l_odd (T : Txt w K mg) : Ca P w K mg base 1 "_law_odd" (spOdd K) := by
  refine ca_of (N := ["_law_k", "_law_odds"]) (ps := ["_law_k"]) T.f_l_odd T.g_law_odd ⟨rfl, rfl, rfl, by decide +kernel, rfl, by decide +kernel, by decide +kernel⟩ (fun _ _ _ _ _ _ us hl => match us, hl with | [_], _ => rfl)
    (fun vs H Q E h => by obtain ⟨k, rfl, q⟩ := h; rfl) (fun cdv A outer s H vs Q E hr h => ?_)
  have nd : (["_law_k", "_law_odds"] : List Str).Nodup := by decide +kernel
  obtain ⟨k, rfl, q⟩ := h
  refine ⟨_, (pss_cons (ps_set (i := 1) nd rfl (.inl rfl) (pe_lst (woK K H (wo_cons (wo_of wd_int) (wo_cons (wo_of wd_neg) (wo_cons (wo_of wd_bl) (wo_cons (wo_of wd_bl) (wo_cons (wo_of wd_non) (wo_cons (wo_of wd_str) (wo_cons (wo_of wd_str) (wo_cons (wo_of wd_str) (wo_cons (wo_of wd_str) (wo_cons (wo_of wd_str) (wo_cons (wo_of wd_str) (wo_cons (wo_of wd_pow) (wo_cons (wo_of (wd_lst (wd_cons wd_str (wd_cons wd_str (wd_cons wd_int wd_nil))))) (wo_cons (wo_of (wd_tup (wd_cons wd_str (wd_cons wd_str wd_nil)))) wo_nil)))))))))))))))))
      (pss_cons (ps_set (i := 1) nd rfl (.inl rfl) (pe_op op_cat (pv 1) (pe_lst (woK K H (wo_cons (wo_of (wd_tup (wd_cons wd_str (wd_cons wd_str (wd_cons wd_int (wd_cons wd_int wd_nil)))))) (wo_cons (wo_of (wd_tup (wd_cons wd_str (wd_cons wd_str (wd_cons wd_int wd_nil))))) (wo_cons (wo_of (wd_tup (wd_cons wd_str (wd_cons wd_str (wd_cons wd_int wd_nil))))) (wo_cons (wo_of (wd_tup (wd_cons wd_int (wd_cons wd_str (wd_cons wd_int wd_nil))))) (wo_cons (wo_of (wd_tup wd_nil)) (wo_cons (wo_of (wd_tup (wd_cons wd_str (wd_cons wd_bl (wd_cons wd_int wd_nil))))) (wo_cons (wo_of (wd_tup (wd_cons (wd_lst (wd_cons wd_str wd_nil)) (wd_cons wd_str (wd_cons wd_int wd_nil))))) wo_nil)))))))))))
      (pss_cons (ps_set (i := 1) nd rfl (.inl rfl) (pe_op op_cat (pv 1) (pe_lst (woK K H (wo_cons wo_dic (wo_cons (wo_of (wd_tup (wd_cons wd_str (wd_cons wd_str (wd_cons wd_int wd_nil))))) (wo_cons (wo_of (wd_tup (wd_cons wd_str (wd_cons wd_str (wd_cons wd_int wd_nil))))) (wo_cons (wo_of (wd_lst (wd_cons wd_str wd_nil))) (wo_cons (wo_of (wd_tup (wd_cons wd_str wd_nil))) (wo_cons (wo_of wd_int) (wo_cons (wo_of wd_int) (wo_cons (wo_of wd_str) (wo_cons (wo_of (wd_tup (wd_cons wd_str (wd_cons (wd_tup (wd_cons wd_str (wd_cons wd_str (wd_cons wd_int wd_nil)))) (wd_cons wd_int wd_nil))))) wo_nil)))))))))))))
      (pss_one (ps_ret (pe_ix ix_list (pv 1) (pe_op op_mod (pe_callTy call_int1 (by rfl) T.b_int boot_int (pa_cons (pv 0) pa_nil)) (pe_callB call_len_seq (by rfl) T.b_len PySem.boot_len (pa_cons (pv 1) pa_nil))) (fun _ _ => rfl))))))), ?_⟩
  refine ⟨Same.refl _, fun vs1 H1 s1 d1 => ?_⟩
  have l1 := Paired.length d1
  refine ⟨by rw [l1, sizeLine_eq]; exact Nat.le_of_ble_eq_true rfl, fun l1 n1 => ⟨_, rfl, ?_⟩⟩
  have t1 := same_new (o := .lst vs1) n1
  refine cat_stepO (s1.trans t1) upd_same (oas_same (less_same t1) d1) (Nat.le_of_ble_eq_true rfl) fun l2 y2 G2 r2 a2 d2 => ⟨_, rfl, ?_⟩
  refine cat_stepO r2 a2 d2 (Nat.le_of_ble_eq_true rfl) fun l6 y6 G6 r6 a6 d6 => ⟨_, rfl, ?_⟩
  have l6n := Paired.length d6
  have ln : 0 < y6.length := by rw [l6n]; exact Nat.le_of_ble_eq_true rfl
  refine ⟨_, rfl, .inl ⟨_, rfl, _, rfl, _, _, rfl, .inl (.of a6), _, _, rfl, rfl, (by show (0 : Int) < (y6.length : Nat); omega), ?_⟩⟩
  have m0 := Int.emod_nonneg k (show (y6.length : Int) ≠ 0 by omega)
  have m1 := Int.emod_lt_of_pos k (show (0 : Int) < (y6.length : Nat) by omega)
  have e : ((k % (y6.length : Nat)).toNat : Int) = k % (y6.length : Nat) := Int.toNat_of_nonneg m0
  have hi : (k % (y6.length : Nat)).toNat < y6.length := by omega
  obtain ⟨o, ed, hd⟩ := oas_at d6 (List.getElem?_eq_getElem hi)
  have B : oddOB o = true := by
    refine List.all_eq_true.mp ?_ o (List.mem_of_getElem? ed)
    decide +kernel
  refine ⟨l6, y6, _, y6[(k % (y6.length : Nat)).toNat], rfl, rfl, .of a6, ?_, q _ o G6 r6 hd (okOB_ok (He.ba B).1) (lenOB_ok (He.ba B).2)⟩
  have hv := atI_nat (List.getElem?_eq_getElem hi)
  rw [e] at hv
  exact hv
def spNodes (K : PySem.W.Frag) : Nat → Sp
  | 0 => fun _ _ _ _ => False
  | n + 1 => fun vs H Q _ => ∃ (v : V) (e : Exp), vs = [v] ∧ Dp K H v e.d ∧ EOk n e ∧ ∀ m : Int, 1 ≤ m → Q (.int m) H
theorem ca_l_nodes (T : Txt w K mg) : ∀ n : Nat, Ca P w K mg base (n + 3) "_law_nodes" (spNodes K n)
  | 0 => ca_false (ps := ["_law_e"]) T.f_l_nodes T.g_law_nodes (fun _ _ _ _ _ _ us hl => match us, hl with | [_], _ => rfl)
  | n + 1 => by
    have ih := ca_l_nodes T n
    refine ca_of (N := ["_law_e"]) (ps := ["_law_e"]) T.f_l_nodes T.g_law_nodes ⟨rfl, rfl, rfl, by decide +kernel, rfl, by decide +kernel, by decide +kernel⟩ (fun _ _ _ _ _ _ us hl => match us, hl with | [_], _ => rfl)
      (fun vs H Q E h => by obtain ⟨v, e, rfl, hv, ok, q⟩ := h; rfl) (fun cdv A outer s H vs Q E hr h => ?_)
    have nd : (["_law_e"] : List Str).Nodup := by decide +kernel
    obtain ⟨v, e, rfl, hv, ok, q⟩ := h
    refine ⟨_, (pss_cons (ps_if (pt_val (pe_is .tuple T.b_isinstance (pv 0) T.b_tuple boot_tuple)) (pss_one (ps_ret (pe_op op_add (pe_op op_add pe_int (pe_ca ih hr (pa_cons (pe_ix ix_tup (pv 0) pe_int (fun _ _ => rfl)) pa_nil) (by omega))) (pe_ca ih hr (pa_cons (pe_ix ix_tup (pv 0) pe_int (fun _ _ => rfl)) pa_nil) (by omega))))) pss_nil)
      (pss_one (ps_ret pe_int))), ?_⟩
    cases e with
    | num i =>
      cases dp_int hv
      exact ⟨_, rfl, _, _, rfl, .int i, _, rfl, iteF (q 1 (by decide))⟩
    | reg r =>
      cases dp_str hv
      exact ⟨_, rfl, _, _, rfl, .str r, _, rfl, iteF (q 1 (by decide))⟩
    | op s a b =>
      obtain ⟨m, rfl, hs, oa, ob⟩ := ok.op_ok
      obtain ⟨t, x, y, z, rfl, ht, hx, hy, hz⟩ := dp3 hv
      refine ⟨_, rfl, _, _, rfl, .tuple ht, _, rfl, iteT ⟨_, rfl, _, _, _, _, rfl, rfl, ht, at1, y, a, rfl, hy, oa, fun i hi => ⟨_, _, rfl, rfl, _, rfl, _, _, _, _, rfl, rfl, ht, at2, z, b, rfl, hz, ob, fun j hj => ⟨_, _, rfl, rfl, q _ (by omega)⟩⟩⟩⟩
def spPut (K : PySem.W.Frag) : Nat → Sp
  | 0 => fun _ _ _ _ => False
  | n + 1 => fun vs H Q _ => ∃ (v ov : V) (l : Addr) (e : Exp) (oo : Od) (k : Int), vs = [v, .ref l, ov] ∧ Dp K (del H l) v e.d ∧ EOk n e ∧ Oa K (del H l) ov oo ∧ okO oo ∧ H l = some (.lst [.int k]) ∧
      ∀ (v' : V) (o : Od) (k' : Int) (H' : Hp), But l H H' → H' l = some (.lst [.int k']) → Oa K (del H' l) v' o → okO o → Q v' H'
theorem ca_l_put (T : Txt w K mg) : ∀ n : Nat, Ca P w K mg base (n + 3) "_law_put" (spPut K n)
  | 0 => ca_false (ps := ["_law_e", "_law_left", "_law_odd_here"]) T.f_l_put T.g_law_put (fun _ _ _ _ _ _ us hl => match us, hl with | [_, _, _], _ => rfl)
  | n + 1 => by
    have ih := ca_l_put T n
    refine ca_of (N := ["_law_e", "_law_left", "_law_odd_here", "_law_first"]) (ps := ["_law_e", "_law_left", "_law_odd_here"]) T.f_l_put T.g_law_put ⟨rfl, rfl, rfl, by decide +kernel, rfl, by decide +kernel, by decide +kernel⟩ (fun _ _ _ _ _ _ us hl => match us, hl with | [_, _, _], _ => rfl)
      (fun vs H Q E h => by obtain ⟨v, ov, l, e, oo, k, rfl, hv, ok, ho, oko, hl, q⟩ := h; rfl) (fun cdv A outer s H vs Q E hr h => ?_)
    have nd : (["_law_e", "_law_left", "_law_odd_here", "_law_first"] : List Str).Nodup := by decide +kernel
    obtain ⟨v, ov, l, e, oo, k, rfl, hv, ok, ho, oko, hl, q⟩ := h
    refine ⟨_, (pss_cons (ps_asg (pe_op op_sub (pe_ix ix_list (pv 1) pe_int (fun _ _ => rfl)) pe_int) (pg_sub (pv 1) pe_int set_list))
      (pss_cons (ps_if (pt_cmpR op_eq (pe_ix ix_list (pv 1) pe_int (fun _ _ => rfl)) (pe_un un_neg pe_int) (nomark _)) (pss_one (ps_ret (pv 2))) pss_nil)
      (pss_cons (ps_if (pt_val (pe_is .tuple T.b_isinstance (pv 0) T.b_tuple boot_tuple)) (pss_cons (ps_set (i := 3) nd rfl (.inl rfl) (pe_ca ih hr (pa_cons (pe_ix ix_tup (pv 0) pe_int (fun _ _ => rfl)) (pa_cons (pv 1) (pa_cons (pv 2) pa_nil))) (by omega)))
      (pss_one (ps_ret (pe_tup (pa_cons (pe_ix ix_tup (pv 0) pe_int (fun _ _ => rfl)) (pa_cons (pv 3) (pa_cons (pe_ca ih hr (pa_cons (pe_ix ix_tup (pv 0) pe_int (fun _ _ => rfl)) (pa_cons (pv 1) (pa_cons (pv 2) pa_nil))) (by omega)) pa_nil))))))) pss_nil)
      (pss_one (ps_ret (pv 0)))))), ?_⟩
    refine ⟨_, rfl, _, _, _, _, rfl, rfl, .of hl, at0, _, _, rfl, rfl, _, rfl, l, _, _, 0, rfl, rfl, hl, rfl, ?_⟩
    have hl1 : upd H l (.lst (([.int k] : List V).set 0 (.int (k - 1)))) l = some (.lst [.int (k - 1)]) := upd_same
    have b1 : But l H (upd H l (.lst (([.int k] : List V).set 0 (.int (k - 1))))) := But.upd
    generalize upd H l (.lst (([.int k] : List V).set 0 (.int (k - 1)))) = H1 at hl1 b1 ⊢
    have hv1 := dp_same (but_del b1) hv
    have ho1 := ho.same (but_del b1)
    refine ⟨_, rfl, _, _, _, _, rfl, rfl, .of hl1, at0, _, rfl, rfl, _, rfl, ?_⟩
    by_cases c : k - 1 = -1
    · rw [decide_eq_true (show V.int (k - 1) = V.int (-1) from congrArg V.int c)]
      exact iteT ⟨_, rfl, q _ _ _ _ b1 hl1 ho1 oko⟩
    rw [decide_eq_false (show ¬ V.int (k - 1) = V.int (-1) from fun z => c (V.int.inj z))]
    refine iteF ?_
    cases e with
    | num i =>
      cases dp_int hv1
      exact ⟨_, rfl, _, _, rfl, .int i, _, rfl, iteF ⟨_, rfl, q _ _ _ _ b1 hl1 (oa_exp hv1) (okO_exp ok)⟩⟩
    | reg r =>
      cases dp_str hv1
      exact ⟨_, rfl, _, _, rfl, .str r, _, rfl, iteF ⟨_, rfl, q _ _ _ _ b1 hl1 (oa_exp hv1) (okO_exp ok)⟩⟩
    | op s a b =>
      obtain ⟨m, rfl, ⟨c, rfl, hc⟩, oa, ob⟩ := ok.op_ok
      obtain ⟨t, x, y, z, rfl, ht, hx, hy, hz⟩ := dp3 hv1
      cases dp_str hx
      have ht1 := same_t del_sub ht
      refine ⟨_, rfl, _, _, rfl, .tuple ht1, _, rfl, iteT ⟨_, rfl, _, _, _, _, rfl, rfl, ht1, at1, _, rfl, _, rfl, y, ov, l, a, oo, _, rfl, hy, oa, ho1, oko, hl1, fun v1 o1 k1 H2 b2 hl2 hv2 ok1 => ?_⟩⟩
      have d2 := but_del b2
      have ht2 := same_t d2 ht
      refine ⟨_, rfl, _, _, _, _, rfl, rfl, same_t del_sub ht2, at0, _, rfl, _, rfl, _, _, _, _, rfl, rfl, same_t del_sub ht2, at2, _, rfl, _, rfl, z, ov, l, b, oo, _, rfl, dp_same d2 hz, ob, ho1.same d2, oko, hl2, fun v2 o2 k2 H3 b3 hl3 hv3 ok2 => ⟨(by show 3 ≤ sizeLine; decide), fun u nu => ?_⟩⟩
      have s4 := same_new (o := .tup [.str (sg1 c), v1, v2]) nu
      have nul : u ≠ l := fun z => by rw [z, hl3] at nu; cases nu
      have hu : del (upd H3 u (.tup [.str (sg1 c), v1, v2])) l u = some (.tup [.str (sg1 c), v1, v2]) := by rw [del_ne nul, upd_same]
      exact q _ (.t3 (.str (sg1 c)) o1 o2) k2 _ (((b1.trans b2).trans b3).trans (same_but s4)) (s4 _ _ hl3) (.t3 (.of hu) (.str _) ((hv2.same (but_del b3)).same (del_mono s4)) (hv3.same (del_mono s4)))
        ⟨strOk_sg (by rcases opC_cases hc with rfl | rfl | rfl | rfl | rfl <;> decide), ok1, ok2⟩
end
end Y

end M

set_option Elab.async false
set_option linter.all false
set_option maxRecDepth 100000
set_option maxHeartbeats 2000000
namespace M
open PySem PySem.Spec PyProof.Rows L2

theorem at_one {z : Str} (n : Nat) (hn : z.length = n) {i : Int} (hi : 0 ≤ i ∧ i < n) : ∃ c, atI z.cps.toList i = some c := by
  have l : i.toNat < z.cps.toList.length := by
    rw [Array.length_toList]
    have : z.cps.size = n := hn
    omega
  have e := atI_nat (List.getElem?_eq_getElem l)
  rw [Int.toNat_of_nonneg hi.1] at e
  exact ⟨_, e⟩
theorem asSg_str (s : Str) : (asSg (.str s)).isSome = decide (s ∈ signs) := by
  show (if s ∈ signs then some s else none).isSome = _
  by_cases h : s ∈ signs
  · rw [if_pos h, decide_eq_true h]
    rfl
  · rw [if_neg h, decide_eq_false h]
    rfl
namespace Y
section
variable {P : Program} {w : World} {K : PySem.W.Frag} {mg : Str → Option Value} {base : Heap}
def spGood (K : PySem.W.Frag) : Nat → Sp
  | 0 => fun _ _ _ _ => False
  | n + 1 => fun vs H Q _ => ∃ (v : V) (o : Od), vs = [v, .int n] ∧ Oa K H v o ∧ okO o ∧ ∀ H', Same H H' → Q (.bl (gd n o).isSome) H'
theorem ca_l_good (T : Txt w K mg) : ∀ n : Nat, Ca P w K mg base (n + 3) "_law_good" (spGood K n)
  | 0 => ca_false (ps := ["_law_e", "_law_depth"]) T.f_l_good T.g_law_good (fun _ _ _ _ _ _ us hl => match us, hl with | [_, _], _ => rfl)
  | n + 1 => by
    have ih := ca_l_good T n
    refine ca_of (N := ["_law_e", "_law_depth"]) (ps := ["_law_e", "_law_depth"]) T.f_l_good T.g_law_good ⟨rfl, rfl, rfl, by decide +kernel, rfl, by decide +kernel, by decide +kernel⟩ (fun _ _ _ _ _ _ us hl => match us, hl with | [_, _], _ => rfl)
      (fun vs H Q E h => by obtain ⟨v, o, rfl, ho, ok, q⟩ := h; rfl) (fun cdv A outer s H vs Q E hr h => ?_)
    have nd : (["_law_e", "_law_depth"] : List Str).Nodup := by decide +kernel
    obtain ⟨v, o, rfl, ho, ok, q⟩ := h
    refine ⟨_, (pss_cons (ps_if (PW.pt (pw_or (pt_val (pe_is .bool T.b_isinstance (pv 0) T.b_bool boot_bool)) (pw_or1 (pt_cmp (pc_isN (pv 0)))))) (pss_one (ps_ret pe_bl)) pss_nil)
      (pss_cons (ps_if (pt_val (pe_is .int T.b_isinstance (pv 0) T.b_int boot_int)) (pss_one (ps_ret (pe_chain op_le op_le pe_int (pv 0) pe_int))) pss_nil)
      (pss_cons (ps_if (pt_val (pe_is .str T.b_isinstance (pv 0) T.b_str boot_str)) (pss_one (ps_ret (pe_cmpR op_in_seq (pv 0) (pe_lst (pa_cons pe_str (pa_cons pe_str (pa_cons pe_str (pa_cons pe_str (pa_cons pe_str pa_nil)))))) (by rfl)))) pss_nil)
      (pss_cons (ps_if (PW.pt (pw_or (pt_not (pt_val (pe_is .tuple T.b_isinstance (pv 0) T.b_tuple boot_tuple))) (pw_or (pt_cmpR op_ne (pe_callB call_len_seq (by rfl) T.b_len PySem.boot_len (pa_cons (pv 0) pa_nil)) pe_int (nomark _)) (pw_or1 (pt_cmpR op_eq (pv 1) pe_int (nomark _)))))) (pss_one (ps_ret pe_bl)) pss_nil)
      (pss_cons (ps_if (PW.pt (pw_or (pt_not (pt_val (pe_is .str T.b_isinstance (pe_ix ix_tup (pv 0) pe_int (fun _ _ => rfl)) T.b_str boot_str))) (pw_or1 (pt_cmpR op_notIn_seq (pe_ix ix_tup (pv 0) pe_int (fun _ _ => rfl)) (pe_lst (pa_cons pe_str (pa_cons pe_str (pa_cons pe_str (pa_cons pe_str (pa_cons pe_str pa_nil)))))) (by rfl))))) (pss_one (ps_ret pe_bl)) pss_nil)
      (pss_one (ps_ret (pe_and (pe_ca ih hr (pa_cons (pe_ix ix_tup (pv 0) pe_int (fun _ _ => rfl)) (pa_cons (pe_op op_sub (pv 1) pe_int) pa_nil)) (by omega)) (pe_one (pe_ca ih hr (pa_cons (pe_ix ix_tup (pv 0) pe_int (fun _ _ => rfl)) (pa_cons (pe_op op_sub (pv 1) pe_int) pa_nil)) (by omega))))))))))), ?_⟩
    have kd := oa_kd ho
    have no : gd n o = none → ∀ H', Same H H' → Q (.bl false) H' := fun e H' s => by
      have := q H' s
      rw [e] at this
      exact this
    have rg : ([V.str "a", .str "b", .str "c", .str "d", .str "x"] : List V) = regs5.map V.str := rfl
    have sg : ([V.str "+", .str "-", .str "*", .str "=", .str "<"] : List V) = signs.map V.str := rfl
    refine ⟨_, rfl, _, _, rfl, kd, _, rfl, ?_⟩
    cases ho with
    | lf h nt =>
      cases h with
      | int i =>
        have q := q H (Same.refl _)
        rw [gd_lf_int] at q
        refine iteF ⟨_, rfl, _, rfl, iteF ⟨_, rfl, _, _, rfl, kd, _, rfl, iteT ⟨_, rfl, _, _, rfl, rfl, _, rfl, ?_⟩⟩⟩
        by_cases c : (0 : Int) ≤ i
        · rw [decide_eq_true c] at q ⊢
          exact iteT ⟨_, _, rfl, rfl, q⟩
        · rw [decide_eq_false c] at q ⊢
          exact iteF q
      | str s =>
        refine iteF ⟨_, rfl, _, rfl, iteF ⟨_, rfl, _, _, rfl, kd, _, rfl, iteF ⟨_, rfl, _, _, rfl, kd, _, rfl, iteT ?_⟩⟩⟩
        refine ⟨_, rfl, (by show 5 ≤ sizeLine; decide), fun l nl => ?_⟩
        have s1 := same_new (o := .lst [V.str "a", .str "b", .str "c", .str "d", .str "x"]) nl
        have q := q _ s1
        rw [gd_lf_str, ← inV_strs] at q
        exact ⟨_, _, rfl, .inl (.of upd_same), rfl, flat_strs regs5, q⟩
      | bl b => exact iteT (no (gd_other n (fun i z => nomatch z) (fun i z => nomatch z)) H (Same.refl _))
      | non => exact iteF ⟨_, rfl, _, rfl, iteT (no (gd_other n (fun i z => nomatch z) (fun i z => nomatch z)) H (Same.refl _))⟩
      | @tup a xs ds h1 h2 =>
        have e : gd n (.lf (.tuple ds)) = none := gd_other n (fun i z => nomatch z) (fun i z => nomatch z)
        have lx := dps_len h2
        have nt : decide ((ds.length : Int) = 3) = false := nt
        have n3 := of_decide_eq_false nt
        refine iteF ⟨_, rfl, _, rfl, iteF ⟨_, rfl, _, _, rfl, kd, _, rfl, iteF ⟨_, rfl, _, _, rfl, kd, _, rfl, iteF ⟨_, rfl, _, _, rfl, kd, _, rfl, iteF ?_⟩⟩⟩⟩
        refine ⟨_, rfl, _, _, rfl, .inr h1, rfl, _, rfl, ?_⟩
        rw [decide_eq_false (show ¬ V.int (xs.length : Nat) = V.int 3 from fun z => n3 (by have := V.int.inj z; omega))]
        exact iteT (no e H (Same.refl _))
      | @lst a xs ds h1 h2 =>
        have e : gd n (.lf (.list ds)) = none := gd_other n (fun i z => nomatch z) (fun i z => nomatch z)
        exact iteF ⟨_, rfl, _, rfl, iteF ⟨_, rfl, _, _, rfl, kd, _, rfl, iteF ⟨_, rfl, _, _, rfl, kd, _, rfl, iteF ⟨_, rfl, _, _, rfl, kd, _, rfl, iteT (no e H (Same.refl _))⟩⟩⟩⟩
    | dic h => exact iteF ⟨_, rfl, _, rfl, iteF ⟨_, rfl, _, _, rfl, kd, _, rfl, iteF ⟨_, rfl, _, _, rfl, kd, _, rfl, iteF ⟨_, rfl, _, _, rfl, kd, _, rfl, iteT (no (gd_dic n) H (Same.refl _))⟩⟩⟩⟩
    | @t3 t x y z s a b ht hs ha hb =>
      refine iteF ⟨_, rfl, _, rfl, iteF ⟨_, rfl, _, _, rfl, kd, _, rfl, iteF ⟨_, rfl, _, _, rfl, kd, _, rfl, iteF ⟨_, rfl, _, _, rfl, kd, _, rfl, iteF ?_⟩⟩⟩⟩
      refine ⟨_, rfl, _, _, rfl, .inr ht, rfl, _, rfl, iteF ⟨_, rfl, rfl, _, rfl, ?_⟩⟩
      cases n with
      | zero => exact iteT (no rfl H (Same.refl _))
      | succ m =>
        rw [decide_eq_false (show ¬ V.int ((m + 1 : Nat) : Int) = V.int 0 from fun z => by have := V.int.inj z; omega)]
        have g3 := gd_t3 m s a b
        refine iteF ⟨_, rfl, _, _, _, _, rfl, rfl, ht, at0, _, _, rfl, dp_kd hs, _, rfl, ?_⟩
        cases hs with
        | str sv =>
          refine iteF ⟨_, rfl, _, _, _, _, rfl, rfl, ht, at0, (by show 5 ≤ sizeLine; decide), fun l nl => ?_⟩
          have s1 := same_new (o := .lst [V.str "+", .str "-", .str "*", .str "=", .str "<"]) nl
          refine ⟨_, _, rfl, .inl (.of upd_same), rfl, flat_strs signs, _, rfl, ?_⟩
          have ei : inV (.str sv) [V.str "+", .str "-", .str "*", .str "=", .str "<"] = (asSg (.str sv)).isSome := by rw [sg, inV_strs, asSg_str]
          rw [ei]
          generalize upd H l (.lst [V.str "+", .str "-", .str "*", .str "=", .str "<"]) = H1 at s1 ⊢
          rw [g3] at q
          cases e1 : (asSg (.str sv)).isSome with
          | false =>
            rw [e1] at q
            exact if_true_of rfl (q H1 s1)
          | true =>
            rw [e1] at q
            refine if_gt2_of rfl ⟨_, rfl, _, _, _, _, rfl, rfl, same_t s1 ht, at1, _, rfl, _, _, rfl, rfl, y, a, by show [y, V.int (((m + 1 : Nat) : Int) - 1)] = _; rw [show (((m + 1 : Nat) : Int) - 1) = (m : Int) by omega], ha.same s1, ok.2.1, fun H2 s2 => ⟨_, rfl, ?_⟩⟩
            have s12 := s1.trans s2
            cases e2 : (gd m a).isSome with
            | false =>
              rw [e2] at q
              exact iteF (q H2 s12)
            | true =>
              rw [e2] at q
              exact iteT ⟨_, rfl, _, _, _, _, rfl, rfl, same_t s12 ht, at2, _, rfl, _, _, rfl, rfl, z, b, by show [z, V.int (((m + 1 : Nat) : Int) - 1)] = _; rw [show (((m + 1 : Nat) : Int) - 1) = (m : Int) by omega], hb.same s12, ok.2.2, fun H3 s3 => q H3 (s12.trans s3)⟩
        | _ =>
          have e : gd (m + 1) (.t3 _ a b) = none := Option.isSome_eq_false_iff.mp g3 |> Option.isNone_iff_eq_none.mp
          exact iteT (no e H (Same.refl _))
def spSign : Sp := fun vs H Q _ => ∃ (p : Addr), vs = [.ref p] ∧ PoolAt H p ∧ ∀ (s : Str) (H' : Hp), But p H H' → PoolAt H' p → s.length ≤ 1 → Q (.str s) H'
theorem ca_l_sign (T : Txt w K mg) : Ca P w K mg base 2 "_law_sign" (spSign) := by
  refine ca_of (N := ["_law_pool_here", "_law_signs"]) (ps := ["_law_pool_here"]) T.f_l_sign T.g_law_sign ⟨rfl, rfl, rfl, by decide +kernel, rfl, by decide +kernel, by decide +kernel⟩ (fun _ _ _ _ _ _ us hl => match us, hl with | [_], _ => rfl)
    (fun vs H Q E h => by obtain ⟨p, rfl, hp, q⟩ := h; rfl) (fun cdv A outer s H vs Q E hr h => ?_)
  have nd : (["_law_pool_here", "_law_signs"] : List Str).Nodup := by decide +kernel
  obtain ⟨p, rfl, hp, q⟩ := h
  refine ⟨_, (pss_cons (ps_if (pt_cmpR op_gt (pe_ca (ca_l_draw T) hr (pa_cons (pv 0) (pa_cons pe_int pa_nil))) pe_int (nomark _)) (pss_one (ps_ret (pe_ix ix_str pe_str (pe_ca (ca_l_draw T) hr (pa_cons (pv 0) (pa_cons pe_int pa_nil))) (fun _ _ => rfl)))) pss_nil)
      (pss_cons (ps_set (i := 1) nd rfl (.inl rfl) pe_str)
      (pss_cons (ps_set (i := 1) nd rfl (.inl rfl) (pe_op op_add_str (pv 1) pe_str))
      (pss_one (ps_ret (pe_ix ix_str (pv 1) (pe_ca (ca_l_draw T) hr (pa_cons (pv 0) (pa_cons pe_int pa_nil))) (fun _ _ => rfl))))))), ?_⟩
  refine ⟨_, rfl, p, 4, rfl, hp, by omega, fun c H1 b1 p1 hc => ⟨_, _, rfl, rfl, _, rfl, ?_⟩⟩
  by_cases c0 : 0 < c
  · rw [decide_eq_true c0]
    refine iteT ⟨_, rfl, p, 18, rfl, p1, by omega, fun i H2 b2 p2 hi => ?_⟩
    obtain ⟨x, hx⟩ := at_one (z := "abcdx019()+-*=<e 2") 18 (by decide +kernel) hi
    exact ⟨_, i, x, rfl, rfl, by decide +kernel, hx, q _ _ (b1.trans b2) p2 (Nat.le_refl 1)⟩
  · rw [decide_eq_false c0]
    refine iteF ⟨_, rfl, _, _, rfl, rfl, by decide +kernel, _, rfl, _, rfl, p, 95, rfl, p1, by omega, fun i H2 b2 p2 hi => ?_⟩
    obtain ⟨x, hx⟩ := at_one (z := (" !\"#$&'()*+,-./0123456789:;<=>?@ABCDEFGHIJKLMNOPQRSTUVWXYZ[\\]^_`" : Str) ++ ("abcdefghijklmnopqrstuvwxyz{|}~\n" : Str)) 95 (by decide +kernel) hi
    exact ⟨_, i, x, rfl, rfl, by decide +kernel, hx, q _ _ (b1.trans b2) p2 (Nat.le_refl 1)⟩
def spChange : Sp := fun vs H Q _ => ∃ (t s : Str) (k at_ : Int), vs = [.str t, .int k, .int at_, .str s] ∧ t.length ≤ 50000 ∧ s.length ≤ 1 ∧ ∀ (u : Str), u.length ≤ 2 * t.length + 1 → Q (.str u) H
theorem ca_l_change (T : Txt w K mg) : Ca P w K mg base 1 "_law_change" (spChange) := by
  refine ca_of (N := ["_law_text_here", "_law_kind", "_law_at", "_law_sign_here"]) (ps := ["_law_text_here", "_law_kind", "_law_at", "_law_sign_here"]) T.f_l_change T.g_law_change ⟨rfl, rfl, rfl, by decide +kernel, rfl, by decide +kernel, by decide +kernel⟩ (fun _ _ _ _ _ _ us hl => match us, hl with | [_, _, _, _], _ => rfl)
    (fun vs H Q E h => by obtain ⟨t, s, k, at_, rfl, hl, hs, q⟩ := h; rfl) (fun cdv A outer s H vs Q E hr h => ?_)
  have nd : (["_law_text_here", "_law_kind", "_law_at", "_law_sign_here"] : List Str).Nodup := by decide +kernel
  obtain ⟨t, s, k, at_, rfl, hl, hs, q⟩ := h
  refine ⟨_, (pss_cons (ps_if (pt_cmpR op_eq (pe_callB call_len_str (by rfl) T.b_len PySem.boot_len (pa_cons (pv 0) pa_nil)) pe_int (nomark _)) (pss_one (ps_ret (pv 3))) pss_nil)
      (pss_cons (ps_set (i := 2) nd rfl (.inl rfl) (pe_op op_mod (pe_callTy call_int1 (by rfl) T.b_int boot_int (pa_cons (pv 2) pa_nil)) (pe_callB call_len_str (by rfl) T.b_len PySem.boot_len (pa_cons (pv 0) pa_nil))))
      (pss_cons (ps_if (pt_cmpR op_eq (pv 1) pe_int (nomark _)) (pss_one (ps_ret (pe_op op_add_str (pe_slice sl_str (pv 0) po_none (po_some (pv 2))) (pe_slice sl_str (pv 0) (po_some (pe_op op_add (pv 2) pe_int)) po_none)))) pss_nil)
      (pss_cons (ps_if (pt_cmpR op_eq (pv 1) pe_int (nomark _)) (pss_one (ps_ret (pe_op op_add_str (pe_op op_add_str (pe_slice sl_str (pv 0) po_none (po_some (pv 2))) (pv 3)) (pe_slice sl_str (pv 0) (po_some (pv 2)) po_none)))) pss_nil)
      (pss_cons (ps_if (pt_cmpR op_eq (pv 1) pe_int (nomark _)) (pss_one (ps_ret (pe_op op_add_str (pe_op op_add_str (pe_slice sl_str (pv 0) po_none (po_some (pv 2))) (pv 3)) (pe_slice sl_str (pv 0) (po_some (pe_op op_add (pv 2) pe_int)) po_none)))) pss_nil)
      (pss_cons (ps_if (pt_cmpR op_eq (pv 1) pe_int (nomark _)) (pss_one (ps_ret (pe_op op_add_str (pv 0) (pv 3)))) pss_nil)
      (pss_cons (ps_if (pt_cmpR op_eq (pv 1) pe_int (nomark _)) (pss_one (ps_ret (pe_op op_add_str (pe_slice sl_str (pv 0) po_none (po_some (pe_op op_add (pv 2) pe_int))) (pe_slice sl_str (pv 0) (po_some (pv 2)) po_none)))) pss_nil)
      (pss_one (ps_ret (pe_slice sl_str (pv 0) po_none (po_some (pv 2)))))))))))), ?_⟩
  have hz : t.length ≤ sizeLine := by rw [sizeLine_eq]; omega
  have cl : ∀ lo hi, (cutS t lo hi).length ≤ t.length := fun lo hi => cutS_length t lo hi
  have L1 : ∀ lo hi, (cutS t lo hi).length + s.length ≤ sizeLine := fun lo hi => by have := cl lo hi; rw [sizeLine_eq]; omega
  have L2 : ∀ lo hi lo' hi', (cutS t lo hi).length + (cutS t lo' hi').length ≤ sizeLine := fun lo hi lo' hi' => by have := cl lo hi; have := cl lo' hi'; rw [sizeLine_eq]; omega
  have L3 : ∀ lo hi lo' hi', (cutS t lo hi ++ s).length + (cutS t lo' hi').length ≤ sizeLine := fun lo hi lo' hi' => by have := cl lo hi; have := cl lo' hi'; rw [sizeLine_eq, len_app]; omega
  have q0 : ∀ lo hi, Q (.str (cutS t lo hi)) H := fun lo hi => q _ (by have := cl lo hi; omega)
  have q2 : ∀ lo hi lo' hi', Q (.str (cutS t lo hi ++ cutS t lo' hi')) H := fun lo hi lo' hi' => q _ (by have := cl lo hi; have := cl lo' hi'; rw [len_app]; omega)
  have q3 : ∀ lo hi lo' hi', Q (.str (cutS t lo hi ++ s ++ cutS t lo' hi')) H := fun lo hi lo' hi' => q _ (by have := cl lo hi; have := cl lo' hi'; rw [len_app, len_app]; omega)
  have q4 : Q (.str (t ++ s)) H := q _ (by rw [len_app]; omega)
  have q5 : Q (.str s) H := q _ (by omega)
  clear q
  refine ⟨_, rfl, _, rfl, hz, rfl, _, rfl, ?_⟩
  by_cases t0 : t.length = 0
  · rw [decide_eq_true (show V.int (t.length : Nat) = V.int 0 by rw [t0]; rfl)]
    exact iteT ⟨_, rfl, q5⟩
  rw [decide_eq_false (show ¬ V.int (t.length : Nat) = V.int 0 from fun z => t0 (by have := V.int.inj z; omega))]
  refine iteF ⟨_, rfl, .inl ⟨_, rfl, _, rfl, _, rfl, hz, _, _, rfl, rfl, (by show (0 : Int) < (t.length : Nat); omega), ?_⟩⟩
  refine ⟨_, rfl, rfl, _, rfl, ?_⟩
  by_cases k0 : k = 0
  · rw [decide_eq_true (show V.int k = V.int 0 from congrArg V.int k0)]
    exact iteT ⟨_, rfl, _, rfl, _, rfl, _, rfl, hz, _, rfl, _, rfl, _, _, rfl, rfl, _, rfl, _, rfl, hz, _, _, rfl, rfl, L2 _ _ _ _, q2 _ _ _ _⟩
  rw [decide_eq_false (show ¬ V.int k = V.int 0 from fun z => k0 (V.int.inj z))]
  refine iteF ⟨_, rfl, rfl, _, rfl, ?_⟩
  by_cases k1 : k = 1
  · rw [decide_eq_true (show V.int k = V.int 1 from congrArg V.int k1)]
    exact iteT ⟨_, rfl, _, rfl, _, rfl, _, rfl, hz, _, rfl, _, _, rfl, rfl, L1 _ _, _, rfl, _, rfl, _, rfl, _, rfl, hz, _, _, rfl, rfl, L3 _ _ _ _, q3 _ _ _ _⟩
  rw [decide_eq_false (show ¬ V.int k = V.int 1 from fun z => k1 (V.int.inj z))]
  refine iteF ⟨_, rfl, rfl, _, rfl, ?_⟩
  by_cases k2 : k = 2
  · rw [decide_eq_true (show V.int k = V.int 2 from congrArg V.int k2)]
    exact iteT ⟨_, rfl, _, rfl, _, rfl, _, rfl, hz, _, rfl, _, _, rfl, rfl, L1 _ _, _, rfl, _, rfl, _, _, rfl, rfl, _, rfl, _, rfl, hz, _, _, rfl, rfl, L3 _ _ _ _, q3 _ _ _ _⟩
  rw [decide_eq_false (show ¬ V.int k = V.int 2 from fun z => k2 (V.int.inj z))]
  refine iteF ⟨_, rfl, rfl, _, rfl, ?_⟩
  by_cases k3 : k = 3
  · rw [decide_eq_true (show V.int k = V.int 3 from congrArg V.int k3)]
    exact iteT ⟨_, rfl, _, rfl, _, _, rfl, rfl, by rw [sizeLine_eq]; omega, q4⟩
  rw [decide_eq_false (show ¬ V.int k = V.int 3 from fun z => k3 (V.int.inj z))]
  refine iteF ⟨_, rfl, rfl, _, rfl, ?_⟩
  by_cases k4 : k = 4
  · rw [decide_eq_true (show V.int k = V.int 4 from congrArg V.int k4)]
    exact iteT ⟨_, rfl, _, rfl, _, _, rfl, rfl, _, rfl, _, rfl, hz, _, rfl, _, rfl, _, rfl, _, rfl, hz, _, _, rfl, rfl, L2 _ _ _ _, q2 _ _ _ _⟩
  rw [decide_eq_false (show ¬ V.int k = V.int 4 from fun z => k4 (V.int.inj z))]
  exact iteF ⟨_, rfl, _, rfl, _, rfl, _, rfl, hz, q0 _ _⟩
end
end Y

end M

set_option Elab.async false
set_option linter.all false
set_option maxRecDepth 100000
set_option maxHeartbeats 2000000
namespace M
open PySem PySem.Spec PyProof.Rows L2

def tagS : SE → Str
  | .ex _ _ => "expr"
  | .sg c => sg1 c
def bodS : SE → PyData
  | .ex e _ => e.d
  | .sg _ => .int 0
def depS : SE → Nat
  | .ex _ d => d
  | .sg _ => 0
def seD (x : SE) : PyData := .tuple [.str (tagS x), bodS x, .int (depS x : Nat)]
theorem seD_noL (x : SE) : NoL (seD x) := .tup fun d h => by
  simp only [List.mem_cons, List.not_mem_nil, or_false] at h
  rcases h with rfl | rfl | rfl
  · exact .str _
  · cases x with
    | ex e d => exact e.noL
    | sg c => exact .int 0
  · exact .int _
theorem in_abx (c : Nat) : decide (c ∈ ("abcdx" : Str).cps.toList) = regC c := by
  rw [show ("abcdx" : Str).cps.toList = [97, 98, 99, 100, 120] by decide +kernel, Bool.eq_iff_iff]
  simp [regC]
theorem in_dgs (c : Nat) : c ∈ ("0123456789" : Str).cps.toList ↔ 48 ≤ c ∧ c ≤ 57 := by
  rw [show ("0123456789" : Str).cps.toList = List.range' 48 10 by decide +kernel, List.mem_range'_1]
  omega
theorem cut_last (xs : List V) : cutV xs (some (-4)) none = xs.drop (xs.length - 4) := by
  unfold cutV
  have e : HT.sIx xs.length 0 (some (-4)) = xs.length - 4 := by
    unfold HT.sIx
    dsimp only
    rw [if_pos (by decide)]
    omega
  rw [e, HT.sIx_none, List.take_of_length_le (by rw [List.length_drop]; omega)]
theorem cut_init (xs : List V) : cutV xs none (some (-4)) = xs.take (xs.length - 4) := by
  unfold cutV
  have e : HT.sIx xs.length xs.length (some (-4)) = xs.length - 4 := by
    unfold HT.sIx
    dsimp only
    rw [if_pos (by decide)]
    omega
  rw [e, HT.sIx_none, List.drop_zero, Nat.sub_zero]
theorem dps_drop {K : PySem.W.Frag} {H : Hp} : ∀ {vs : List V} {ds : List PyData} (n : Nat), DpAll K H vs ds → DpAll K H (vs.drop n) (ds.drop n)
  | _, _, 0, h => h
  | _, _, _ + 1, .nil => .nil
  | _, _, n + 1, .cons _ t => dps_drop n t
theorem dps_take {K : PySem.W.Frag} {H : Hp} : ∀ {vs : List V} {ds : List PyData} (n : Nat), DpAll K H vs ds → DpAll K H (vs.take n) (ds.take n)
  | _, _, 0, _ => .nil
  | _, _, _ + 1, .nil => .nil
  | _, _, n + 1, .cons h t => .cons h (dps_take n t)
theorem dps4 {K : PySem.W.Frag} {H : Hp} {W : List V} {d e f g : PyData} (h : DpAll K H W [d, e, f, g]) : ∃ a b c x, W = [a, b, c, x] ∧ Dp K H a d ∧ Dp K H b e ∧ Dp K H c f ∧ Dp K H x g := by
  cases h with | cons h0 h => cases h with | cons h1 h => cases h with | cons h2 h => cases h with | cons h3 h => cases h with | nil => exact ⟨_, _, _, _, rfl, h0, h1, h2, h3⟩
theorem expr_sg (c : Nat) : ("expr" : Str) ≠ sg1 c := fun z => by
  have := congrArg Str.length z
  rw [show ("expr" : Str).length = 4 by decide +kernel] at this
  exact absurd this (by show ¬ (4 = 1); decide)
theorem tag_lp {x : SE} : tagS x = "(" ↔ x = .sg 40 := by
  cases x with
  | ex e d => exact ⟨fun h => absurd (h.trans lp_sg) (expr_sg 40), fun h => nomatch h⟩
  | sg c => exact ⟨fun h => by rw [sg1_inj ((show sg1 c = "(" from h).trans lp_sg)], fun h => by cases h; exact lp_sg.symm⟩
theorem tag_ex {x : SE} : tagS x = "expr" ↔ ∃ e d, x = .ex e d := by
  cases x with
  | ex e d => exact ⟨fun _ => ⟨e, d, rfl⟩, fun _ => rfl⟩
  | sg c => exact ⟨fun h => absurd (show sg1 c = "expr" from h).symm (expr_sg c), fun ⟨e, d, h⟩ => nomatch h⟩
theorem tag_op {x : SE} : tagS x ∈ signs ↔ ∃ c, x = .sg c ∧ opC c = true := by
  cases x with
  | ex e d => exact ⟨fun h => by obtain ⟨c, h, _⟩ := mem_signs.mp h; exact absurd h (expr_sg c), fun ⟨c, h, _⟩ => nomatch h⟩
  | sg c => exact ⟨fun h => by
      have h : decide (sg1 c ∈ signs) = true := decide_eq_true h
      rw [sg1_signs] at h
      exact ⟨c, rfl, h⟩, fun ⟨d, h, k⟩ => by cases h; exact mem_signs.mpr ⟨c, rfl, k⟩⟩
theorem four_len {l : List SE} (h : l.length ≠ 4) : four l = none := by
  cases e : four l with
  | none => rfl
  | some q =>
    obtain ⟨a, x, s, b, y⟩ := q
    obtain ⟨rfl, _⟩ := four_ok e
    exact absurd rfl h
theorem four_no {f0 f1 f2 f3 : SE} (h : ¬ (tagS f0 = "(" ∧ tagS f1 = "expr" ∧ tagS f3 = "expr" ∧ tagS f2 ∈ signs)) : four [f0, f1, f2, f3] = none := by
  cases e : four [f0, f1, f2, f3] with
  | none => rfl
  | some q =>
    obtain ⟨a, x, s, b, y⟩ := q
    obtain ⟨e, o⟩ := four_ok e
    cases e
    exact absurd ⟨lp_sg.symm, rfl, rfl, mem_signs.mpr ⟨s, rfl, o⟩⟩ h
theorem four_yes {f0 f1 f2 f3 : SE} (h0 : tagS f0 = "(") (h1 : tagS f1 = "expr") (h3 : tagS f3 = "expr") (h2 : tagS f2 ∈ signs) : ∃ a x s b y, f0 = .sg 40 ∧ f1 = .ex a x ∧ f2 = .sg s ∧ f3 = .ex b y ∧ opC s = true ∧ four [f0, f1, f2, f3] = some (a, x, s, b, y) := by
  have e0 := tag_lp.mp h0
  obtain ⟨a, x, e1⟩ := tag_ex.mp h1
  obtain ⟨b, y, e3⟩ := tag_ex.mp h3
  obtain ⟨s, e2, o⟩ := tag_op.mp h2
  subst e0 e1 e2 e3
  refine ⟨a, x, s, b, y, rfl, rfl, rfl, rfl, o, ?_⟩
  show (if 40 = 40 ∧ opC s = true then some (a, x, s, b, y) else none) = _
  rw [if_pos ⟨rfl, o⟩]
theorem max_int (x y : Nat) : (1 : Int) + (if (y : Int) > (x : Int) then (y : Int) else (x : Int)) = ((1 + max x y : Nat) : Int) := by
  split <;> omega
namespace Y
section
variable {P : Program} {w : World} {K : PySem.W.Frag} {mg : Str → Option Value} {base : Heap}
def wRd (K : PySem.W.Frag) (H : Hp) (Q : VK) : Option Exp → Prop
  | none => ∀ H', Same H H' → Q .non H'
  | some e => ∀ u v H', Same H H' → H' u = some (.tup [v]) → Dp K H' v e.d → Q (.ref u) H'
def spLRd (K : PySem.W.Frag) : Sp := fun vs H Q _ => ∃ (t : Str), vs = [.str t] ∧ t.length ≤ 100000 ∧ wRd K H Q (inE (TL.tl t))
theorem ca_l_read (T : Txt w K mg) : Ca P w K mg base 1 "_law_read" (spLRd K) := by
  refine ca_of (N := ["_law_text_here", "_law_stack", "_law_sign_here", "_law_last", "_law_depth"]) (ps := ["_law_text_here"]) T.f_l_read T.g_law_read ⟨rfl, rfl, rfl, by decide +kernel, rfl, by decide +kernel, by decide +kernel⟩ (fun _ _ _ _ _ _ us hl => match us, hl with | [_], _ => rfl)
    (fun vs H Q E h => by obtain ⟨t, rfl, hl, q⟩ := h; rfl) (fun cdv A outer s H vs Q E hr h => ?_)
  have nd : (["_law_text_here", "_law_stack", "_law_sign_here", "_law_last", "_law_depth"] : List Str).Nodup := by decide +kernel
  obtain ⟨t, rfl, hl, q⟩ := h
  refine ⟨_, (pss_cons (ps_set (i := 1) nd rfl (.inl rfl) (pe_lst pa_nil))
      (pss_cons (ps_for PassesOwn.never rfl (pi_str (pv 0)) (pg_name (i := 2) nd rfl (.inl rfl)) (pss_one (ps_if (pt_cmpR op_in_sign (pv 2) pe_str (by rfl)) (pss_one (ps_expr (pe_bm PySem.F.plainAttrs_list PySem.F.slot_list_append PySem.F.type_list_append mt_append (pv 1) (pa_cons (pe_tup (pa_cons pe_str (pa_cons (pv 2) (pa_cons pe_int pa_nil)))) pa_nil)))) (pss_one (ps_if (pt_cmpR op_in_sign (pv 2) pe_str (by rfl)) (pss_one (ps_expr (pe_bm PySem.F.plainAttrs_list PySem.F.slot_list_append PySem.F.type_list_append mt_append (pv 1) (pa_cons (pe_tup (pa_cons pe_str (pa_cons (pe_callTy call_int_str (by rfl) T.b_int boot_int (pa_cons (pv 2) pa_nil)) (pa_cons pe_int pa_nil)))) pa_nil)))) (pss_one (ps_if (pt_cmpR op_eq (pv 2) pe_str (nomark _)) (pss_cons (ps_set (i := 3) nd rfl (.inl rfl) (pe_slice sl_list (pv 1) (po_some (pe_un un_neg pe_int)) po_none))
      (pss_cons (ps_if (PW.pt (pw_or (pt_cmpR op_lt (pe_callB call_len_seq (by rfl) T.b_len PySem.boot_len (pa_cons (pv 3) pa_nil)) pe_int (nomark _)) (pw_or (pt_cmpR op_ne (pe_ix ix_tup (pe_ix ix_list (pv 3) pe_int (fun _ _ => rfl)) pe_int (fun _ _ => rfl)) pe_str (nomark _)) (pw_or1 (pt_cmpR op_ne (pe_ix ix_tup (pe_ix ix_list (pv 3) pe_int (fun _ _ => rfl)) pe_int (fun _ _ => rfl)) pe_str (nomark _)))))) (pss_one (ps_ret pe_non)) pss_nil)
      (pss_cons (ps_if (PW.pt (pw_or (pt_cmpR op_ne (pe_ix ix_tup (pe_ix ix_list (pv 3) pe_int (fun _ _ => rfl)) pe_int (fun _ _ => rfl)) pe_str (nomark _)) (pw_or1 (pt_cmpR op_notIn_seq (pe_ix ix_tup (pe_ix ix_list (pv 3) pe_int (fun _ _ => rfl)) pe_int (fun _ _ => rfl)) (pe_lst (pa_cons pe_str (pa_cons pe_str (pa_cons pe_str (pa_cons pe_str (pa_cons pe_str pa_nil)))))) (by rfl))))) (pss_one (ps_ret pe_non)) pss_nil)
      (pss_cons (ps_set (i := 4) nd rfl (.inl rfl) (pe_op op_add pe_int (pe_callB (call_max2 rfl) (by rfl) T.b_max boot_max (pa_cons (pe_ix ix_tup (pe_ix ix_list (pv 3) pe_int (fun _ _ => rfl)) pe_int (fun _ _ => rfl)) (pa_cons (pe_ix ix_tup (pe_ix ix_list (pv 3) pe_int (fun _ _ => rfl)) pe_int (fun _ _ => rfl)) pa_nil)))))
      (pss_cons (ps_if (pt_cmpR op_gt (pv 4) pe_int (nomark _)) (pss_one (ps_ret pe_non)) pss_nil)
      (pss_cons (ps_set (i := 1) nd rfl (.inl rfl) (pe_slice sl_list (pv 1) po_none (po_some (pe_un un_neg pe_int))))
      (pss_one (ps_expr (pe_bm PySem.F.plainAttrs_list PySem.F.slot_list_append PySem.F.type_list_append mt_append (pv 1) (pa_cons (pe_tup (pa_cons pe_str (pa_cons (pe_tup (pa_cons (pe_ix ix_tup (pe_ix ix_list (pv 3) pe_int (fun _ _ => rfl)) pe_int (fun _ _ => rfl)) (pa_cons (pe_ix ix_tup (pe_ix ix_list (pv 3) pe_int (fun _ _ => rfl)) pe_int (fun _ _ => rfl)) (pa_cons (pe_ix ix_tup (pe_ix ix_list (pv 3) pe_int (fun _ _ => rfl)) pe_int (fun _ _ => rfl)) pa_nil)))) (pa_cons (pv 4) pa_nil)))) pa_nil)))))))))) (pss_one (ps_if (PW.pt (pw_and (pt_cmpR op_eq (pv 2) pe_str (nomark _)) (pw_and1 (pt_cmpR op_gt (pe_callB call_len_seq (by rfl) T.b_len PySem.boot_len (pa_cons (pv 1) pa_nil)) pe_int (nomark _))))) (pss_one (ps_ret pe_non)) (pss_one (ps_expr (pe_bm PySem.F.plainAttrs_list PySem.F.slot_list_append PySem.F.type_list_append mt_append (pv 1) (pa_cons (pe_tup (pa_cons (pv 2) (pa_cons pe_int (pa_cons pe_int pa_nil)))) pa_nil)))))))))))))
      (pss_cons (ps_if (PW.pt (pw_or (pt_cmpR op_ne (pe_callB call_len_seq (by rfl) T.b_len PySem.boot_len (pa_cons (pv 1) pa_nil)) pe_int (nomark _)) (pw_or1 (pt_cmpR op_ne (pe_ix ix_tup (pe_ix ix_list (pv 1) pe_int (fun _ _ => rfl)) pe_int (fun _ _ => rfl)) pe_str (nomark _))))) (pss_one (ps_ret pe_non)) pss_nil)
      (pss_one (ps_ret (pe_tup (pa_cons (pe_ix ix_tup (pe_ix ix_list (pv 1) pe_int (fun _ _ => rfl)) pe_int (fun _ _ => rfl)) pa_nil))))))), ?_⟩
  rw [← rdS_inE] at q
  have no : rdS (TL.tl t) = none → ∀ H', Same H H' → Q .non H' := fun e => by
    rw [e] at q
    exact q
  refine ⟨by show 0 ≤ sizeLine; exact Nat.zero_le _, fun D0 nD0 => ?_⟩
  have s0 := same_new (o := .lst []) nD0
  refine ⟨_, rfl, _, rfl, for_it (n := t.cps.size) walk_str (fun i σ' H' => ∃ (D : Addr) (vs : List V) (S : List SE) (x2 x3 x4 : Option V), σ' = [some (.str t), some (.ref D), x2, x3, x4] ∧ Same H H' ∧ H D = none ∧ H' D = some (.lst vs) ∧ DpAll K H' vs (S.map seD) ∧ S.length ≤ i ∧ rdS (TL.tl t) = (runS S ((TL.tl t).drop i)).bind finS)
    ⟨D0, [], [], none, none, none, rfl, s0, nD0, upd_same, .nil, Nat.le_refl _, rfl⟩ (fun _ _ _ _ _ => trivial) ?_ ?_⟩
  · rintro i x σ' H0 H' hi ⟨D, vs, S, x2, x3, x4, rfl, sj, nD, hD, dvs, lS, er⟩ ⟨rfl, c, hc, rfl⟩
    have hc : (TL.tl t)[i]? = some c := by
      rw [← Array.getElem?_toList] at hc
      exact hc
    have lv : vs.length = S.length := by rw [dps_len dvs, List.length_map]
    have li : i < t.length := hi
    rw [drop_at hc] at er
    have go : ∀ S', stp S c = some S' → rdS (TL.tl t) = (runS S' ((TL.tl t).drop (i + 1))).bind finS := fun S' h => by rw [er, runS_step h]
    have stop : stp S c = none → ∀ H', Same H H' → Q .non H' := fun h => no (by
      rw [er, runS, h]
      rfl)
    have nl : ∀ d ∈ S.map seD, NoL d := fun d hd => by
      obtain ⟨x, _, rfl⟩ := List.mem_map.mp hd
      exact seD_noL x
    have push : ∀ (y : SE) (u : Addr) (o : HO), H' u = none → Dp K (upd H' u o) (.ref u) (seD y) → Same H (upd (upd H' u o) D (.lst (vs ++ [.ref u]))) ∧ DpAll K (upd (upd H' u o) D (.lst (vs ++ [.ref u]))) (vs ++ [.ref u]) ((S ++ [y]).map seD) := by
      intro y u o nu dy
      have s1 := same_new (o := o) nu
      have bb : But D (upd H' u o) (upd (upd H' u o) D (.lst (vs ++ [.ref u]))) := But.upd
      have hD1 := s1 _ _ hD
      refine ⟨fun b z e => bb _ _ (ne_of_none e nD) (s1 _ _ (sj _ _ e)), ?_⟩
      rw [List.map_append]
      exact dps_app (dps_but (.lst hD1) bb (dps_same s1 dvs) nl) (.cons (dp_but (.lst hD1) bb dy (seD_noL y)) .nil)
    refine ⟨_, rfl, c, _, rfl, rfl, _, rfl, ?_⟩
    rw [in_abx]
    cases c1 : regC c with
    | true =>
      have st : stp S c = some (S ++ [.ex (.reg (sg1 c)) 0]) := if_pos c1
      refine iteT ⟨_, rfl, .inl ⟨rfl, _, .of hD⟩, _, rfl, (by show 3 ≤ sizeLine; decide), fun u nu => ?_⟩
      have s1 := same_new (o := .tup [.str "expr", .str ⟨#[c]⟩, .int 0]) nu
      obtain ⟨p1, p2⟩ := push (.ex (.reg (sg1 c)) 0) u _ nu (.tup (.of upd_same) (.cons (.str _) (.cons (.str _) (.cons (.int _) .nil))))
      exact ⟨D, _, _, rfl, rfl, s1 _ _ hD, by rw [sizeLine_eq]; omega, D, _, _, _, _, _, rfl, p1, nD, upd_same, p2, by rw [List.length_append]; exact Nat.succ_le_succ lS, go _ st⟩
    | false =>
      refine iteF ⟨_, rfl, c, _, rfl, rfl, _, rfl, ?_⟩
      by_cases c2 : 48 ≤ c ∧ c ≤ 57
      · rw [decide_eq_true ((in_dgs c).mpr c2)]
        have st : stp S c = some (S ++ [.ex (.num ((c : Int) - 48)) 0]) := by
          unfold stp
          rw [if_neg (by rw [c1]; decide), if_pos c2]
        refine iteT ⟨_, rfl, .inl ⟨rfl, _, .of hD⟩, _, rfl, _, _, rfl, dg_of c2, (by show 1 ≤ 640; decide), (by show 3 ≤ sizeLine; decide), fun u nu => ?_⟩
        have s1 := same_new (o := .tup [.str "expr", .int ((c : Int) - 48), .int 0]) nu
        obtain ⟨p1, p2⟩ := push (.ex (.num ((c : Int) - 48)) 0) u _ nu (.tup (.of upd_same) (.cons (.str _) (.cons (.int _) (.cons (.int _) .nil))))
        exact ⟨D, _, _, rfl, rfl, s1 _ _ hD, by rw [sizeLine_eq]; omega, D, _, _, _, _, _, rfl, p1, nD, upd_same, p2, by rw [List.length_append]; exact Nat.succ_le_succ lS, go _ st⟩
      rw [decide_eq_false (fun z => c2 ((in_dgs c).mp z))]
      refine iteF ⟨_, rfl, rfl, _, rfl, ?_⟩
      by_cases c3 : c = 41
      case neg =>
        rw [decide_eq_false (show ¬ V.str (⟨#[c]⟩ : Str) = V.str ")" from fun z => sg1_ne c3 ((V.str.inj z).trans rp_sg))]
        have st0 : stp S c = if c = 40 ∧ 40 < S.length then none else some (S ++ [.sg c]) := by
          unfold stp
          rw [if_neg (by rw [c1]; decide), if_neg c2, if_neg c3]
        refine iteF ⟨_, rfl, rfl, _, rfl, ?_⟩
        by_cases c4 : c = 40
        case' pos =>
          rw [decide_eq_true (show V.str (⟨#[c]⟩ : Str) = V.str "(" by rw [c4]; exact congrArg V.str lp_sg.symm)]
          refine iteT ⟨_, rfl, _, _, rfl, .inl (.of hD), _, _, rfl, rfl, _, rfl, ?_⟩
          by_cases c5 : 40 < S.length
          case' pos =>
            rw [decide_eq_true (show (vs.length : Int) > 40 by omega)]
            exact iteT (stop (by rw [st0, if_pos ⟨c4, c5⟩]) H' sj)
          rw [decide_eq_false (show ¬ (vs.length : Int) > 40 by omega)]
          have st : stp S c = some (S ++ [.sg c]) := by rw [st0, if_neg (fun z => c5 z.2)]
        case' neg =>
          rw [decide_eq_false (show ¬ V.str (⟨#[c]⟩ : Str) = V.str "(" from fun z => sg1_ne c4 ((V.str.inj z).trans lp_sg))]
          have st : stp S c = some (S ++ [.sg c]) := by rw [st0, if_neg (fun z => c4 z.1)]
        all_goals
          refine iteF ⟨_, rfl, .inl ⟨rfl, _, .of hD⟩, _, rfl, (by show 3 ≤ sizeLine; decide), fun u nu => ?_⟩
          have s1 := same_new (o := .tup [.str ⟨#[c]⟩, .int 0, .int 0]) nu
          obtain ⟨p1, p2⟩ := push (.sg c) u _ nu (.tup (.of upd_same) (.cons (.str _) (.cons (.int _) (.cons (.int _) .nil))))
          exact ⟨D, _, _, rfl, rfl, s1 _ _ hD, by rw [sizeLine_eq]; omega, D, _, _, _, _, _, rfl, p1, nD, upd_same, p2, by rw [List.length_append]; exact Nat.succ_le_succ lS, go _ st⟩
      subst c3
      have st0 : stp S 41 = redS S := by
        unfold stp
        rw [if_neg (by decide), if_neg (by decide), if_pos rfl]
      rw [decide_eq_true (show V.str (⟨#[41]⟩ : Str) = V.str ")" from congrArg V.str rp_sg.symm)]
      refine iteT ⟨_, rfl, _, rfl, _, rfl, ?_⟩
      show tNoPart _ _ _
      unfold tNoPart
      refine ⟨D, _, rfl, .of hD, fun L nL => ?_⟩
      rw [cut_last]
      have dF : DpAll K H' (vs.drop (vs.length - 4)) ((S.drop (S.length - 4)).map seD) := by
        rw [List.map_drop, lv]
        exact dps_drop _ dvs
      have lF : (S.drop (S.length - 4)).length ≤ 4 := by
        rw [List.length_drop]
        omega
      have dTk : DpAll K H' (vs.take (vs.length - 4)) ((S.take (S.length - 4)).map seD) := by
        rw [List.map_take, lv]
        exact dps_take _ dvs
      have rd : redS S = match four (S.drop (S.length - 4)) with
        | some (a, x, s, b, y) => if 1 + max x y ≤ 6 then some (S.take (S.length - 4) ++ [.ex (.op (sg1 s) a b) (1 + max x y)]) else none
        | none => none := rfl
      generalize S.drop (S.length - 4) = F at dF lF rd
      generalize vs.drop (vs.length - 4) = W at dF ⊢
      have lW : W.length = F.length := by rw [dps_len dF, List.length_map]
      have sL := same_new (o := .lst W) nL
      have hL : upd H' L (.lst W) L = some (.lst W) := upd_same
      have hD := sL _ _ hD
      have dF := dps_same sL dF
      have dTk := dps_same sL dTk
      generalize upd H' L (.lst W) = H1 at sL hL hD dF dTk ⊢
      have sj := sj.trans sL
      have bad : four F = none → ∀ H2, Same H1 H2 → Q .non H2 := fun e H2 s2 => stop (by rw [st0, rd, e]) H2 (sj.trans s2)
      refine ⟨_, rfl, _, _, rfl, .inl (.of hL), _, _, rfl, rfl, _, rfl, ?_⟩
      by_cases c4 : F.length = 4
      case neg =>
        rw [decide_eq_true (show (W.length : Int) < 4 by omega)]
        exact iteT (bad (four_len c4) H1 (Same.refl _))
      rw [decide_eq_false (show ¬ (W.length : Int) < 4 by omega)]
      obtain ⟨f0, f1, f2, f3, rfl⟩ : ∃ a b c d, F = [a, b, c, d] := by
        match F, c4 with
        | [a, b, c, d], _ => exact ⟨a, b, c, d, rfl⟩
      obtain ⟨w0, w1, w2, w3, rfl, h0, h1, h2, h3⟩ := dps4 dF
      obtain ⟨t0, a0, b0, d0, rfl, ht0, ha0, hb0, hd0⟩ := dp3 h0
      obtain ⟨t1, a1, b1, d1, rfl, ht1, ha1, hb1, hd1⟩ := dp3 h1
      obtain ⟨t2, a2, b2, d2, rfl, ht2, ha2, hb2, hd2⟩ := dp3 h2
      obtain ⟨t3, a3, b3, d3, rfl, ht3, ha3, hb3, hd3⟩ := dp3 h3
      cases dp_str ha0
      cases dp_str ha1
      cases dp_str ha2
      cases dp_str ha3
      cases dp_int hd1
      cases dp_int hd3
      refine iteF ⟨_, rfl, _, _, _, _, rfl, rfl, .of hL, at0, _, _, _, _, rfl, rfl, ht0, at0, rfl, _, rfl, ?_⟩
      by_cases g0 : tagS f0 = "("
      case neg =>
        rw [decide_eq_false (show ¬ V.str (tagS f0) = V.str "(" from fun z => g0 (V.str.inj z))]
        exact iteT (bad (four_no fun z => g0 z.1) H1 (Same.refl _))
      rw [decide_eq_true (show V.str (tagS f0) = V.str "(" from congrArg V.str g0)]
      refine iteF ⟨_, rfl, _, _, _, _, rfl, rfl, .of hL, at1, _, _, _, _, rfl, rfl, ht1, at0, rfl, _, rfl, ?_⟩
      by_cases g1 : tagS f1 = "expr"
      case neg =>
        rw [decide_eq_false (show ¬ V.str (tagS f1) = V.str "expr" from fun z => g1 (V.str.inj z))]
        exact iteT (bad (four_no fun z => g1 z.2.1) H1 (Same.refl _))
      rw [decide_eq_true (show V.str (tagS f1) = V.str "expr" from congrArg V.str g1)]
      refine iteF ⟨_, rfl, _, _, _, _, rfl, rfl, .of hL, at3, _, _, _, _, rfl, rfl, ht3, at0, rfl, _, rfl, ?_⟩
      by_cases g3 : tagS f3 = "expr"
      case neg =>
        rw [decide_eq_false (show ¬ V.str (tagS f3) = V.str "expr" from fun z => g3 (V.str.inj z))]
        exact iteT (bad (four_no fun z => g3 z.2.2.1) H1 (Same.refl _))
      rw [decide_eq_true (show V.str (tagS f3) = V.str "expr" from congrArg V.str g3)]
      refine iteF ⟨_, rfl, _, _, _, _, rfl, rfl, .of hL, at2, _, _, _, _, rfl, rfl, ht2, at0, (by show 5 ≤ sizeLine; decide), fun l nl => ?_⟩
      have s5 := same_new (o := .lst [V.str "+", .str "-", .str "*", .str "=", .str "<"]) nl
      refine ⟨_, _, rfl, .inl (.of upd_same), rfl, flat_strs signs, _, rfl, ?_⟩
      have ei : inV (.str (tagS f2)) [V.str "+", .str "-", .str "*", .str "=", .str "<"] = decide (tagS f2 ∈ signs) := inV_strs _ signs
      rw [ei]
      have hL := s5 _ _ hL
      have hD := s5 _ _ hD
      have dTk := dps_same s5 dTk
      have hb1 := dp_same s5 hb1
      have hb3 := dp_same s5 hb3
      have ht1 := same_t s5 ht1
      have ht2 := same_t s5 ht2
      have ht3 := same_t s5 ht3
      generalize upd H1 l (.lst [V.str "+", .str "-", .str "*", .str "=", .str "<"]) = H2 at s5 hL hD dTk hb1 hb3 ht1 ht2 ht3 ⊢
      have sj := sj.trans s5
      by_cases g2 : tagS f2 ∈ signs
      case neg =>
        rw [decide_eq_false g2]
        exact if_true_of rfl (bad (four_no fun z => g2 z.2.2.2) H2 s5)
      rw [decide_eq_true g2]
      obtain ⟨ea, x, sc, eb, y, rfl, rfl, rfl, rfl, os, ef⟩ := four_yes g0 g1 g3 g2
      rw [ef] at rd
      dsimp only at rd
      refine if_gt2_of rfl ⟨_, rfl, _, _, _, _, rfl, rfl, .of hL, at1, _, _, _, _, rfl, rfl, ht1, at2, _, rfl, _, _, _, _, rfl, rfl, .of hL, at3, _, _, _, _, rfl, rfl, ht3, at2, _, _, rfl, _, _, rfl, rfl, ?_⟩
      refine ⟨_, rfl, _, _, rfl, rfl, _, rfl, ?_⟩
      have mi := max_int x y
      by_cases c6 : 1 + max x y ≤ 6
      case neg =>
        refine if_true_of ?_ (stop (by rw [st0, rd, if_neg c6]) H2 sj)
        refine decide_eq_true (show (1 : Int) + (if ((y : Nat) : Int) > ((x : Nat) : Int) then ((y : Nat) : Int) else ((x : Nat) : Int)) > 6 from ?_)
        rw [mi]
        omega
      refine if_gt2_of ?_ ?_
      · refine decide_eq_false (show ¬ (1 : Int) + (if ((y : Nat) : Int) > ((x : Nat) : Int) then ((y : Nat) : Int) else ((x : Nat) : Int)) > 6 from ?_)
        rw [mi]
        omega
      rw [if_pos c6] at rd
      refine ⟨_, rfl, _, rfl, _, rfl, D, _, rfl, .of hD, fun p np => ?_⟩
      rw [cut_init]
      have s6 := same_new (o := .lst (vs.take (vs.length - 4))) np
      have hp : upd H2 p (.lst (vs.take (vs.length - 4))) p = some (.lst (vs.take (vs.length - 4))) := upd_same
      have nHp := none_of sj np
      have sj := sj.trans s6
      have dTk := dps_same s6 dTk
      have hL := s6 _ _ hL
      have hb1 := dp_same s6 hb1
      have hb3 := dp_same s6 hb3
      have ht1 := same_t s6 ht1
      have ht2 := same_t s6 ht2
      have ht3 := same_t s6 ht3
      have lT : (vs.take (vs.length - 4)).length = (S.take (S.length - 4)).length := by rw [List.length_take, List.length_take, lv]
      have lT2 : (S.take (S.length - 4)).length ≤ S.length := by rw [List.length_take]; omega
      generalize upd H2 p (.lst (vs.take (vs.length - 4))) = H3 at s6 hp sj dTk hL hb1 hb3 ht1 ht2 ht3 ⊢
      generalize vs.take (vs.length - 4) = V4 at hp dTk lT ⊢
      generalize S.take (S.length - 4) = S4 at dTk lT lT2 rd
      refine ⟨_, rfl, .inl ⟨rfl, _, .of hp⟩, _, rfl, _, _, _, _, rfl, rfl, .of hL, at2, _, _, _, _, rfl, rfl, ht2, at0, _, rfl, _, _, _, _, rfl, rfl, .of hL, at1, _, _, _, _, rfl, rfl, ht1, at1, _, rfl, _, _, _, _, rfl, rfl, .of hL, at3, _, _, _, _, rfl, rfl, ht3, at1, (by show 3 ≤ sizeLine; decide), fun u nu => ?_⟩
      have s7 := same_new (o := .tup [.str (tagS (.sg sc)), b1, b3]) nu
      refine ⟨_, rfl, (by show 3 ≤ sizeLine; decide), fun z nz => ?_⟩
      have dI : Dp K (upd H3 u (.tup [.str (tagS (.sg sc)), b1, b3])) (.int ((1 : Int) + (if ((y : Nat) : Int) > ((x : Nat) : Int) then ((y : Nat) : Int) else ((x : Nat) : Int)))) (.int ((1 + max x y : Nat) : Int)) := by
        rw [← mi]
        exact .int _
      have s8 := same_new (o := .tup [.str "expr", .ref u, .int ((1 : Int) + (if ((y : Nat) : Int) > ((x : Nat) : Int) then ((y : Nat) : Int) else ((x : Nat) : Int)))]) nz
      have hu : upd H3 u (.tup [.str (tagS (.sg sc)), b1, b3]) u = some (.tup [.str (tagS (.sg sc)), b1, b3]) := upd_same
      have dN : Dp K (upd (upd H3 u (.tup [.str (tagS (.sg sc)), b1, b3])) z (.tup [.str "expr", .ref u, .int ((1 : Int) + (if ((y : Nat) : Int) > ((x : Nat) : Int) then ((y : Nat) : Int) else ((x : Nat) : Int)))])) (.ref z) (seD (.ex (.op (sg1 sc) ea eb) (1 + max x y))) :=
        .tup (.of upd_same) (.cons (.str _) (.cons (.tup (.of (s8 _ _ hu)) (.cons (.str _) (.cons (dp_same (s7.trans s8) hb1) (.cons (dp_same (s7.trans s8) hb3) .nil)))) (.cons (dp_same s8 dI) .nil)))
      have nl4 : ∀ d ∈ S4.map seD, NoL d := fun d hd => by
        obtain ⟨x, _, rfl⟩ := List.mem_map.mp hd
        exact seD_noL x
      have s78 := s7.trans s8
      have hp5 := s78 _ _ hp
      have bb : ∀ (G : Hp), But p G (upd G p (.lst (V4 ++ [.ref z]))) := fun G => But.upd
      refine ⟨p, _, _, rfl, rfl, hp5, by rw [sizeLine_eq]; omega, p, _, S4 ++ [.ex (.op (sg1 sc) ea eb) (1 + max x y)], _, _, _, rfl, fun b o e => bb _ _ _ (ne_of_none e nHp) ((sj.trans s78) _ _ e), nHp, upd_same, ?_, by rw [List.length_append]; exact Nat.succ_le_succ (Nat.le_trans lT2 lS), go _ (st0.trans rd)⟩
      rw [List.map_append]
      exact dps_app (dps_but (.lst hp5) (bb _) (dps_same s78 dTk) nl4) (.cons (dp_but (.lst hp5) (bb _) dN (seD_noL _)) .nil)
  · rintro σ' H' ⟨D, vs, S, x2, x3, x4, rfl, sj, nD, hD, dvs, lS, er⟩
    have lv : vs.length = S.length := by rw [dps_len dvs, List.length_map]
    have lt : (TL.tl t).length ≤ t.cps.size := by
      show t.cps.toList.length ≤ _
      rw [Array.length_toList]
      exact Nat.le_refl _
    rw [List.drop_of_length_le lt] at er
    have er : rdS (TL.tl t) = finS S := er
    refine ⟨_, rfl, _, _, rfl, .inl (.of hD), rfl, _, rfl, ?_⟩
    by_cases c1 : S.length = 1
    case neg =>
      have e : finS S = none := by
        match S, c1 with
        | [], _ => rfl
        | [_], c => exact absurd rfl c
        | .ex _ _ :: _ :: _, _ => rfl
        | .sg _ :: _ :: _, _ => rfl
      rw [decide_eq_false (show ¬ V.int (vs.length : Nat) = V.int 1 from fun z => c1 (by have := V.int.inj z; omega))]
      exact iteT (no (er.trans e) H' sj)
    rw [decide_eq_true (show V.int (vs.length : Nat) = V.int 1 by rw [lv, c1]; rfl)]
    obtain ⟨f, rfl⟩ := List.length_eq_one_iff.mp c1
    obtain ⟨w0, rfl, h0⟩ : ∃ w0, vs = [w0] ∧ Dp K H' w0 (seD f) := by
      cases dvs with | cons h0 dvs => cases dvs with | nil => exact ⟨_, rfl, h0⟩
    obtain ⟨t0, a0, b0, d0, rfl, ht0, ha0, hb0, hd0⟩ := dp3 h0
    cases dp_str ha0
    refine iteF ⟨_, rfl, _, _, _, _, rfl, rfl, .of hD, at0, _, _, _, _, rfl, rfl, ht0, at0, rfl, _, rfl, ?_⟩
    by_cases g0 : tagS f = "expr"
    case neg =>
      have e : finS [f] = none := by
        cases f with
        | ex e d => exact absurd rfl g0
        | sg c => rfl
      rw [decide_eq_false (show ¬ V.str (tagS f) = V.str "expr" from fun z => g0 (V.str.inj z))]
      exact iteT (no (er.trans e) H' sj)
    rw [decide_eq_true (show V.str (tagS f) = V.str "expr" from congrArg V.str g0)]
    obtain ⟨e, d, rfl⟩ := tag_ex.mp g0
    have er : rdS (TL.tl t) = some e := er
    rw [er] at q
    refine iteF ⟨_, rfl, _, _, _, _, rfl, rfl, .of hD, at0, _, _, _, _, rfl, rfl, ht0, at1, (by show 1 ≤ sizeLine; decide), fun u nu => ?_⟩
    have s1 := same_new (o := .tup [b0]) nu
    exact q u b0 _ (sj.trans s1) upd_same (dp_same s1 hb0)
end
end Y

end M

set_option Elab.async false
set_option linter.all false
set_option maxRecDepth 100000
set_option maxHeartbeats 2000000
namespace M
open PySem PySem.Spec PyProof.Rows L2

section
variable {X : Cx} {a D : Addr} {oe : Obj} {cls : Value} {d : Option Addr} {pn : List (Addr × Obj)}
theorem call_isEg (C : ExcC X.K D) (hz : Zc cls d oe) (hf : ∃ vs, oe.data = .fields vs) : CallR (X.suite a ((a, oe) :: pn)) (.builtin "isinstance") (fun xs H Q => cls = .ref D ∧ d = none ∧ rIsE X.K D a xs H Q) := by
  intro pins s σ H xs us Q I r h
  obtain ⟨e1, e2, h⟩ := h
  subst e1 e2
  exact call_isE C hz hf pins s σ H xs us Q I r h
theorem call_isETg (C : ExcC X.K D) (hz : Zc cls d oe) (hf : ∃ vs, oe.data = .fields vs) : CallR (X.suite a ((a, oe) :: pn)) (.builtin "isinstance")
    (fun xs H Q => cls = .ref D ∧ d = none ∧ ∃ (tp : Addr) (cs : List V) (us : List Value) (b : Bool), xs = [.ref a, .ref tp] ∧ H tp = some (.tup cs) ∧ Paired ClsV cs us ∧ PySem.W.kitAny X.K (.ref D) us = some b ∧ Q (.bl b) H) := by
  intro pins s σ H xs us Q I r h
  obtain ⟨e1, e2, h⟩ := h
  subst e1 e2
  exact call_isET C hz hf pins s σ H xs us Q I r h
end
theorem kit_two {K : PySem.W.Frag} {t c d : Value} (h : PySem.W.kitOne K t c = some false) (k : PySem.W.kitOne K t d = some false) : PySem.W.kitAny K t [c, d] = some false := by
  unfold PySem.W.kitAny
  rw [h]
  dsimp only
  unfold PySem.W.kitAny
  rw [k]
  rfl
namespace Y
section
variable {P : Program} {w : World} {K : PySem.W.Frag} {mg : Str → Option Value} {base : Heap}
theorem isE (T : Txt w K mg) : ExcC K (He.ga K "NoExpression") ∧ PySem.W.kitOne K (.ref (He.ga K "NoExpression")) (.type "ValueError") = some true ∧ PySem.W.kitAny K (.ref (He.ga K "NoExpression")) [.ref (He.ga K "NoText"), .ref (He.ga K "NoLine")] = some false := by
  obtain ⟨h1, h2, _, h4⟩ := isx_of T.e_isx (show ("NoExpression" : Str) ∈ en by decide +kernel)
  refine ⟨h1.toE, h2, kit_two ?_ ?_⟩
  · rw [h4 "NoText" (by decide +kernel), show decide (("NoText" : Str) = "NoExpression") = false by decide +kernel]
  · rw [h4 "NoLine" (by decide +kernel), show decide (("NoLine" : Str) = "NoExpression") = false by decide +kernel]
def spSm (K : PySem.W.Frag) : Nat → Sp
  | 0 => fun _ _ _ _ => False
  | n + 1 => fun vs H Q _ => ∃ (x y : V) (e : Exp), vs = [x, y] ∧ Dp K H x e.d ∧ Dp K H y e.d ∧ EOk n e ∧ Q (.bl true) H
theorem ca_l_same (T : Txt w K mg) : ∀ n : Nat, Ca P w K mg base (n + 3) "_law_same" (spSm K n)
  | 0 => ca_false (ps := ["_law_one", "_law_due"]) T.f_l_same T.g_law_same (fun _ _ _ _ _ _ us hl => match us, hl with | [_, _], _ => rfl)
  | n + 1 => by
    have ih := ca_l_same T n
    refine ca_of (N := ["_law_one", "_law_due"]) (ps := ["_law_one", "_law_due"]) T.f_l_same T.g_law_same ⟨rfl, rfl, rfl, by decide +kernel, rfl, by decide +kernel, by decide +kernel⟩ (fun _ _ _ _ _ _ us hl => match us, hl with | [_, _], _ => rfl)
      (fun vs H Q E h => by obtain ⟨x, y, e, rfl, hx, hy, ok, q⟩ := h; rfl) (fun cdv A outer s H vs Q E hr h => ?_)
    have nd : (["_law_one", "_law_due"] : List Str).Nodup := by decide +kernel
    obtain ⟨x, y, e, rfl, hx, hy, ok, q⟩ := h
    refine ⟨_, (pss_cons (ps_if (pt_val (pe_is .tuple T.b_isinstance (pv 1) T.b_tuple boot_tuple)) (pss_cons (ps_if (PW.pt (pw_or (pt_not (pt_val (pe_is .tuple T.b_isinstance (pv 0) T.b_tuple boot_tuple))) (pw_or (pt_cmpR op_ne (pe_callB call_len_seq (by rfl) T.b_len PySem.boot_len (pa_cons (pv 0) pa_nil)) pe_int (nomark _)) (pw_or (pt_not (pt_val (pe_is .str T.b_isinstance (pe_ix ix_tup (pv 0) pe_int (fun _ _ => rfl)) T.b_str boot_str))) (pw_or1 (pt_cmpR op_ne (pe_ix ix_tup (pv 0) pe_int (fun _ _ => rfl)) (pe_ix ix_tup (pv 1) pe_int (fun _ _ => rfl)) (nomark _))))))) (pss_one (ps_ret pe_bl)) pss_nil)
      (pss_one (ps_ret (pe_and (pe_ca ih hr (pa_cons (pe_ix ix_tup (pv 0) pe_int (fun _ _ => rfl)) (pa_cons (pe_ix ix_tup (pv 1) pe_int (fun _ _ => rfl)) pa_nil)) (by omega)) (pe_one (pe_ca ih hr (pa_cons (pe_ix ix_tup (pv 0) pe_int (fun _ _ => rfl)) (pa_cons (pe_ix ix_tup (pv 1) pe_int (fun _ _ => rfl)) pa_nil)) (by omega))))))) pss_nil)
      (pss_cons (ps_if (pt_val (pe_is .str T.b_isinstance (pv 1) T.b_str boot_str)) (pss_one (ps_ret (pe_and (pe_is .str T.b_isinstance (pv 0) T.b_str boot_str) (pe_one (pe_cmpR op_eq (pv 0) (pv 1) (nomark _)))))) pss_nil)
      (pss_one (ps_ret (pe_and (pe_is .int T.b_isinstance (pv 0) T.b_int boot_int) (pe_and (pe_not (pe_is .bool T.b_isinstance (pv 0) T.b_bool boot_bool)) (pe_one (pe_cmpR op_eq (pv 0) (pv 1) (nomark _))))))))), ?_⟩
    cases e with
    | num i =>
      cases dp_int hx
      cases dp_int hy
      refine ⟨_, rfl, _, _, rfl, .int i, _, rfl, iteF ⟨_, rfl, _, _, rfl, .int i, _, rfl, iteF ⟨_, rfl, _, _, rfl, .int i, _, rfl, iteT ⟨_, rfl, _, _, rfl, .int i, _, rfl, _, rfl, iteT ⟨_, rfl, _, rfl, rfl, ?_⟩⟩⟩⟩⟩
      show Q (.bl (decide (V.int i = V.int i))) H
      rw [decide_eq_true rfl]
      exact q
    | reg r =>
      cases dp_str hx
      cases dp_str hy
      refine ⟨_, rfl, _, _, rfl, .str r, _, rfl, iteF ⟨_, rfl, _, _, rfl, .str r, _, rfl, iteT ⟨_, rfl, _, _, rfl, .str r, _, rfl, iteT ⟨_, rfl, _, rfl, rfl, ?_⟩⟩⟩⟩
      show Q (.bl (decide (V.str r = V.str r))) H
      rw [decide_eq_true rfl]
      exact q
    | op s a b =>
      obtain ⟨m, rfl, hs, oa, ob⟩ := ok.op_ok
      obtain ⟨t, x0, x1, x2, rfl, ht, hx0, hx1, hx2⟩ := dp3 hx
      obtain ⟨u, y0, y1, y2, rfl, hu, hy0, hy1, hy2⟩ := dp3 hy
      cases dp_str hx0
      cases dp_str hy0
      refine ⟨_, rfl, _, _, rfl, .tuple hu, _, rfl, iteT ⟨_, rfl, _, _, rfl, .tuple ht, _, rfl, iteF ⟨_, rfl, _, _, rfl, .inr ht, rfl, _, rfl, iteF ⟨_, rfl, _, _, _, _, rfl, rfl, ht, at0, _, _, rfl, .str s, _, rfl, iteF ?_⟩⟩⟩⟩
      refine ⟨_, rfl, _, _, _, _, rfl, rfl, ht, at0, _, rfl, _, _, _, _, rfl, rfl, hu, at0, rfl, _, rfl, ?_⟩
      rw [decide_eq_true (show V.str s = V.str s from rfl)]
      refine iteF ⟨_, rfl, _, _, _, _, rfl, rfl, ht, at1, _, rfl, _, _, _, _, rfl, rfl, hu, at1, x1, y1, a, rfl, hx1, hy1, oa, _, rfl, iteT ?_⟩
      exact ⟨_, rfl, _, _, _, _, rfl, rfl, ht, at2, _, rfl, _, _, _, _, rfl, rfl, hu, at2, x2, y2, b, rfl, hx2, hy2, ob, q⟩
def askR (r : Bool) (o : Od) : Option PyData := if r = true then (rdO o).map Exp.d else (gd 6 o).map fun e => .str (estr e)
def Told (K : PySem.W.Frag) (H : Hp) (t : Addr) : Option PyData → Prop
  | some d => ∃ v, H t = some (.tup [.str "told", v]) ∧ Dp K H v d
  | none => H t = some (.tup [.str "refused", .bl true])
def spAsk (K : PySem.W.Frag) : Sp := fun vs H Q _ => ∃ (r : Bool) (v : V) (o : Od), vs = [.bl r, v] ∧ Oa K H v o ∧ (r = false → okO o) ∧ (r = true → lenO o) ∧ ∀ t H', Same H H' → Told K H' t (askR r o) → Q (.ref t) H'
theorem ca_l_asked (T : Txt w K mg) : Ca P w K mg base 12 "_law_asked" (spAsk K) := by
  refine ca_of (N := ["_law_reading", "_law_thing", "_law_told", "error"]) (ps := ["_law_reading", "_law_thing"]) T.f_l_asked T.g_law_asked ⟨rfl, rfl, rfl, by decide +kernel, rfl, by decide +kernel, by decide +kernel⟩ (fun _ _ _ _ _ _ us hl => match us, hl with | [_, _], _ => rfl)
    (fun vs H Q E h => by obtain ⟨r, v, o, rfl, ho, ok, hl, q⟩ := h; rfl) (fun cdv A outer s H vs Q E hr h => ?_)
  have nd : (["_law_reading", "_law_thing", "_law_told", "error"] : List Str).Nodup := by decide +kernel
  obtain ⟨r, v, o, rfl, ho, ok, hl, q⟩ := h
  refine ⟨_, (pss_cons (ps_set (i := 2) nd rfl (.inl rfl) (pe_tup (pa_cons pe_str (pa_cons pe_bl pa_nil))))
      (pss_cons (ps_tryH (hands_as (i := 3) ⟨rfl, by decide, .inl T.g_NoExpression⟩ rfl nd rfl rfl (fun _ _ _ _ _ hz hf => by exact (pss_one (ps_set (i := 2) nd rfl (.inl rfl) (pe_tup (pa_cons pe_str (pa_cons (pe_and (pe_callB (call_isEg (isE T).1 hz hf) (by rfl) T.b_isinstance boot_isinstance (pa_cons (pv 3) (pa_cons (pe_ty T.b_ValueError PyProof.Rows.Boot.«ValueError») pa_nil))) (pe_one (pe_not (pe_callB (call_isETg (isE T).1 hz hf) (by rfl) T.b_isinstance boot_isinstance (pa_cons (pv 3) (pa_cons (pe_tup (pa_cons (pe_gr T.g_NoText) (pa_cons (pe_gr T.g_NoLine) pa_nil))) pa_nil)))))) pa_nil)))))) (hands_as (i := 3) ⟨rfl, by decide, .inl T.g_PastError⟩ rfl nd rfl rfl (fun _ _ _ _ _ hz hf => by exact (pss_one (ps_set (i := 2) nd rfl (.inl rfl) (pe_tup (pa_cons pe_str (pa_cons pe_bl pa_nil)))))) (hands_nil (Wout := fun _ _ _ _ => False) rfl rfl takes0))) rfl rfl (fun W pn xe tk _ => by exact (pss_one (ps_if (pt_val (pv 0)) (pss_one (ps_set (i := 2) nd rfl (.inl rfl) (pe_tup (pa_cons pe_str (pa_cons (pe_caX (cx_read_expression T) hr tk (pa_cons (pv 1) pa_nil)) pa_nil))))) (pss_one (ps_set (i := 2) nd rfl (.inl rfl) (pe_tup (pa_cons pe_str (pa_cons (pe_caX (cx_expression_text T) hr tk (pa_cons (pv 1) pa_nil)) pa_nil)))))))) pss_nil)
      (pss_one (ps_ret (pv 2))))), ?_⟩
  refine ⟨(by show 2 ≤ sizeLine; decide), fun t0 n0 => ?_⟩
  have s0 := same_new (o := .tup [.str "none", .bl false]) n0
  generalize upd H t0 (.tup [.str "none", .bl false]) = H0 at s0 ⊢
  have ho0 := ho.same s0
  have refuse : askR r o = none → ∀ H1 t, Same H H1 → H1 t = none → Q (.ref t) (upd H1 t (.tup [.str "refused", .bl true])) := fun e H1 t s1 nt => by
    refine q t _ (s1.trans (same_new nt)) ?_
    rw [e]
    exact upd_same
  have tell : ∀ d, askR r o = some d → ∀ H1 t v1, Same H H1 → Dp K H1 v1 d → H1 t = none → Q (.ref t) (upd H1 t (.tup [.str "told", v1])) := fun d e H1 t v1 s1 dv nt => by
    refine q t _ (s1.trans (same_new nt)) ?_
    rw [e]
    exact ⟨v1, upd_same, dp_same (same_new nt) dv⟩
  clear q
  cases r with
  | true =>
    refine ⟨_, rfl, _, rfl, iteT ⟨_, rfl, v, o, rfl, ho0, hl rfl, ?_⟩⟩
    cases e : rdO o with
    | some e1 =>
      have e2 : askR true o = some e1.d := by
        show (rdO o).map Exp.d = _
        rw [e]
        rfl
      intro v1 H1 s1 dv
      exact ⟨(by show 2 ≤ sizeLine; decide), fun t nt => ⟨_, rfl, tell _ e2 H1 t v1 (s0.trans s1) dv nt⟩⟩
    | none =>
      have e2 : askR true o = none := by
        show (rdO o).map Exp.d = _
        rw [e]
        rfl
      intro H1 s1
      refine ⟨true, T.xm_NoExpression, fun _ a na => ?_, fun z => nomatch z⟩
      refine ⟨_, rfl, rfl, rfl, _, _, _, rfl, fun u h => h, (isE T).2.1, _, rfl, iteT ⟨_, rfl, (by show 2 ≤ sizeLine; decide), fun tp ntp => ?_⟩⟩
      have s2 := same_new (o := .tup [.ref (He.ga K "NoText"), .ref (He.ga K "NoLine")]) ntp
      exact ⟨rfl, rfl, tp, _, _, _, rfl, upd_same, .cons (.own _) (.cons (.own _) .nil), (isE T).2.2, _, rfl, (by show 2 ≤ sizeLine; decide), fun t nt => ⟨_, rfl, refuse e2 _ t ((s0.trans s1).trans s2) nt⟩⟩
  | false =>
    refine ⟨_, rfl, _, rfl, iteF ⟨_, rfl, v, o, rfl, ho0, ok rfl, ?_⟩⟩
    cases e : gd 6 o with
    | some e1 =>
      have e2 : askR false o = some (.str (estr e1)) := by
        show (gd 6 o).map (fun e => PyData.str (estr e)) = _
        rw [e]
        rfl
      exact ⟨(by show 2 ≤ sizeLine; decide), fun t nt => ⟨_, rfl, tell _ e2 H0 t _ s0 (.str _) nt⟩⟩
    | none =>
      have e2 : askR false o = none := by
        show (gd 6 o).map (fun e => PyData.str (estr e)) = _
        rw [e]
        rfl
      refine ⟨true, T.xm_NoExpression, fun _ a na => ?_, fun z => nomatch z⟩
      refine ⟨_, rfl, rfl, rfl, _, _, _, rfl, fun u h => h, (isE T).2.1, _, rfl, iteT ⟨_, rfl, (by show 2 ≤ sizeLine; decide), fun tp ntp => ?_⟩⟩
      have s2 := same_new (o := .tup [.ref (He.ga K "NoText"), .ref (He.ga K "NoLine")]) ntp
      exact ⟨rfl, rfl, tp, _, _, _, rfl, upd_same, .cons (.own _) (.cons (.own _) .nil), (isE T).2.2, _, rfl, (by show 2 ≤ sizeLine; decide), fun t nt => ⟨_, rfl, refuse e2 _ t (s0.trans s2) nt⟩⟩
def spChkW (K : PySem.W.Frag) : Sp := fun vs H Q _ => ∃ (v : V) (o : Od), vs = [v] ∧ Oa K H v o ∧ okO o ∧ ∀ H', Same H H' → Q (.bl true) H'
def spChk (K : PySem.W.Frag) : Sp := fun vs H Q _ => ∃ (v : V) (o : Od), vs = [v] ∧ Oa K H v o ∧ lenO o ∧ ∀ H', Same H H' → Q (.bl true) H'
theorem ca_l_writes (T : Txt w K mg) : Ca P w K mg base 13 "_law_writes" (spChkW K) := by
  refine ca_of (N := ["_law_thing", "_law_told"]) (ps := ["_law_thing"]) T.f_l_writes T.g_law_writes ⟨rfl, rfl, rfl, by decide +kernel, rfl, by decide +kernel, by decide +kernel⟩ (fun _ _ _ _ _ _ us hl => match us, hl with | [_], _ => rfl)
    (fun vs H Q E h => by obtain ⟨v, o, rfl, ho, ok, q⟩ := h; rfl) (fun cdv A outer s H vs Q E hr h => ?_)
  have nd : (["_law_thing", "_law_told"] : List Str).Nodup := by decide +kernel
  obtain ⟨v, o, rfl, ho, ok, q⟩ := h
  refine ⟨_, (pss_cons (ps_set (i := 1) nd rfl (.inl rfl) (pe_ca (ca_l_asked T) hr (pa_cons pe_bl (pa_cons (pv 0) pa_nil))))
      (pss_cons (ps_if (pt_not (pt_val (pe_ca (ca_l_good T 7) hr (pa_cons (pv 0) (pa_cons pe_int pa_nil))))) (pss_one (ps_ret (pe_and (pe_cmpR op_eq (pe_ix ix_tup (pv 1) pe_int (fun _ _ => rfl)) pe_str (nomark _)) (pe_one (pe_ix ix_tup (pv 1) pe_int (fun _ _ => rfl)))))) pss_nil)
      (pss_one (ps_ret (pe_and (pe_cmpR op_eq (pe_ix ix_tup (pv 1) pe_int (fun _ _ => rfl)) pe_str (nomark _)) (pe_and (pe_is .str T.b_isinstance (pe_ix ix_tup (pv 1) pe_int (fun _ _ => rfl)) T.b_str boot_str) (pe_one (pe_cmpR op_eq (pe_ix ix_tup (pv 1) pe_int (fun _ _ => rfl)) (pe_ca (ca_l_text T 7) hr (pa_cons (pv 0) pa_nil)) (nomark _))))))))), ?_⟩
  refine ⟨_, rfl, false, v, o, rfl, ho, (fun _ => ok), (fun z => nomatch z), fun t H1 s1 ht => ?_⟩
  refine ⟨_, rfl, v, o, rfl, ho.same s1, ok, fun H2 s2 => ⟨_, rfl, ?_⟩⟩
  have ea : askR false o = (gd 6 o).map (fun e => PyData.str (estr e)) := rfl
  rw [ea] at ht
  cases e : gd 6 o with
  | none =>
    rw [e] at ht
    have ht2 : SqT K H2 t [.str "refused", .bl true] := .of (s2 _ _ ht)
    exact iteT ⟨_, rfl, _, _, _, _, rfl, rfl, ht2, at0, rfl, _, rfl, iteT ⟨_, rfl, _, _, _, _, rfl, rfl, ht2, at1, q H2 (s1.trans s2)⟩⟩
  | some e1 =>
    rw [e] at ht
    obtain ⟨v1, ht, dv⟩ := ht
    cases dp_str dv
    obtain ⟨o6, rfl⟩ := gd_ok e
    have ht2 : SqT K H2 t [.str "told", .str (estr e1)] := .of (s2 _ _ ht)
    have dv2 := dp_exp (ho.same (s1.trans s2))
    refine iteF ⟨_, rfl, _, _, _, _, rfl, rfl, ht2, at0, rfl, _, rfl, iteT ⟨_, rfl, _, _, _, _, rfl, rfl, ht2, at1, _, _, rfl, .str _, _, rfl, iteT ?_⟩⟩
    refine ⟨_, rfl, _, _, _, _, rfl, rfl, ht2, at1, _, rfl, v, e1, rfl, dv2, o6, by decide, rfl, ?_⟩
    show Q (.bl (decide (V.str (estr e1) = V.str (estr e1)))) H2
    rw [decide_eq_true rfl]
    exact q H2 (s1.trans s2)
theorem lenO_exp {n : Nat} {e : Exp} (h : EOk n e) : lenO (eo e) := by
  cases e with
  | num i => trivial
  | reg r =>
    obtain ⟨c, rfl, _⟩ := h.reg_ok
    show 1 ≤ 100000
    decide
  | op s a b => trivial
theorem ca_l_reads (T : Txt w K mg) : Ca P w K mg base 14 "_law_reads" (spChk K) := by
  refine ca_of (N := ["_law_text_here", "_law_due", "_law_told"]) (ps := ["_law_text_here"]) T.f_l_reads T.g_law_reads ⟨rfl, rfl, rfl, by decide +kernel, rfl, by decide +kernel, by decide +kernel⟩ (fun _ _ _ _ _ _ us hl => match us, hl with | [_], _ => rfl)
    (fun vs H Q E h => by obtain ⟨v, o, rfl, ho, hl, q⟩ := h; rfl) (fun cdv A outer s H vs Q E hr h => ?_)
  have nd : (["_law_text_here", "_law_due", "_law_told"] : List Str).Nodup := by decide +kernel
  obtain ⟨v, o, rfl, ho, hl, q⟩ := h
  refine ⟨_, (pss_cons (ps_set (i := 1) nd rfl (.inl rfl) pe_non)
      (pss_cons (ps_if (pt_val (pe_is .str T.b_isinstance (pv 0) T.b_str boot_str)) (pss_one (ps_set (i := 1) nd rfl (.inl rfl) (pe_ca (ca_l_read T) hr (pa_cons (pv 0) pa_nil)))) pss_nil)
      (pss_cons (ps_set (i := 2) nd rfl (.inl rfl) (pe_ca (ca_l_asked T) hr (pa_cons pe_bl (pa_cons (pv 0) pa_nil))))
      (pss_cons (ps_if (pt_cmp (pc_isN (pv 1))) (pss_one (ps_ret (pe_and (pe_cmpR op_eq (pe_ix ix_tup (pv 2) pe_int (fun _ _ => rfl)) pe_str (nomark _)) (pe_one (pe_ix ix_tup (pv 2) pe_int (fun _ _ => rfl)))))) pss_nil)
      (pss_cons (ps_if (PW.pt (pw_or (pt_cmpR op_ne (pe_ix ix_tup (pv 2) pe_int (fun _ _ => rfl)) pe_str (nomark _)) (pw_or1 (pt_not (pt_val (pe_ca (ca_l_same T 7) hr (pa_cons (pe_ix ix_tup (pv 2) pe_int (fun _ _ => rfl)) (pa_cons (pe_ix ix_tup (pv 1) pe_int (fun _ _ => rfl)) pa_nil)))))))) (pss_one (ps_ret pe_bl)) pss_nil)
      (pss_one (ps_ret (pe_and (pe_cmpR op_eq (pe_ca (ca_l_text T 7) hr (pa_cons (pe_ix ix_tup (pv 1) pe_int (fun _ _ => rfl)) pa_nil)) (pv 0) (nomark _)) (pe_one (pe_ca (ca_l_writes T) hr (pa_cons (pe_ix ix_tup (pv 2) pe_int (fun _ _ => rfl)) pa_nil))))))))))), ?_⟩
  have kd := oa_kd ho
  have hO := ho
  refine ⟨_, rfl, _, _, rfl, kd, _, rfl, ?_⟩
  cases ho with
  | lf h nt =>
    cases h with
    | str s =>
      have hs : s.length ≤ 100000 := hl
      refine iteT ⟨_, rfl, s, rfl, hs, ?_⟩
      have ea : askR true (.lf (.str s)) = (inE (TL.tl s)).map Exp.d := rfl
      cases e : inE (TL.tl s) with
      | none =>
        intro H1 s1
        refine ⟨_, rfl, true, _, _, rfl, hO.same s1, (fun z => nomatch z), (fun _ => hl), fun t H2 s2 ht => ?_⟩
        rw [ea, e] at ht
        have ht : H2 t = some (.tup [.str "refused", .bl true]) := ht
        have ht2 : SqT K H2 t [.str "refused", .bl true] := .of ht
        exact ⟨_, rfl, _, rfl, iteT ⟨_, rfl, _, _, _, _, rfl, rfl, ht2, at0, rfl, _, rfl, iteT ⟨_, rfl, _, _, _, _, rfl, rfl, ht2, at1, q H2 (s1.trans s2)⟩⟩⟩
      | some e1 =>
        obtain ⟨o6, et⟩ := inE_iff.mp e
        have es : s = estr e1 := TL.ext_tl et
        intro u v1 H1 s1 hu dv
        refine ⟨_, rfl, true, _, _, rfl, hO.same s1, (fun z => nomatch z), (fun _ => hl), fun t H2 s2 ht => ?_⟩
        rw [ea, e] at ht
        obtain ⟨v2, ht, dv2⟩ := ht
        have ht2 : SqT K H2 t [.str "told", v2] := .of ht
        have hu2 : SqT K H2 u [v1] := .of (s2 _ _ hu)
        have dv1 := dp_same s2 dv
        refine ⟨_, rfl, _, rfl, iteF ⟨_, rfl, _, _, _, _, rfl, rfl, ht2, at0, rfl, _, rfl, iteF ?_⟩⟩
        refine ⟨_, rfl, _, _, _, _, rfl, rfl, ht2, at1, _, rfl, _, _, _, _, rfl, rfl, hu2, at0, v2, v1, e1, rfl, dv2, dv1, o6, _, rfl, iteF ?_⟩
        refine ⟨_, rfl, _, _, _, _, rfl, rfl, hu2, at0, v1, e1, rfl, dv1, o6, by decide, _, rfl, rfl, _, rfl, ?_⟩
        rw [decide_eq_true (show V.str (estr e1) = V.str s by rw [es])]
        exact iteT ⟨_, rfl, _, _, _, _, rfl, rfl, ht2, at1, v2, eo e1, rfl, oa_exp dv2, okO_exp o6, fun H3 s3 => q H3 ((s1.trans s2).trans s3)⟩
    | _ =>
      refine iteF ⟨_, rfl, true, _, _, rfl, hO, (fun z => nomatch z), (fun _ => hl), fun t H2 s2 ht => ?_⟩
      have ht : H2 t = some (.tup [.str "refused", .bl true]) := ht
      have ht2 : SqT K H2 t [.str "refused", .bl true] := .of ht
      exact ⟨_, rfl, _, rfl, iteT ⟨_, rfl, _, _, _, _, rfl, rfl, ht2, at0, rfl, _, rfl, iteT ⟨_, rfl, _, _, _, _, rfl, rfl, ht2, at1, q H2 s2⟩⟩⟩
  | _ =>
    refine iteF ⟨_, rfl, true, _, _, rfl, hO, (fun z => nomatch z), (fun _ => hl), fun t H2 s2 ht => ?_⟩
    have ht : H2 t = some (.tup [.str "refused", .bl true]) := ht
    have ht2 : SqT K H2 t [.str "refused", .bl true] := .of ht
    exact ⟨_, rfl, _, rfl, iteT ⟨_, rfl, _, _, _, _, rfl, rfl, ht2, at0, rfl, _, rfl, iteT ⟨_, rfl, _, _, _, _, rfl, rfl, ht2, at1, q H2 s2⟩⟩⟩
end
end Y

end M

set_option Elab.async false
set_option linter.all false
set_option maxRecDepth 100000
set_option maxHeartbeats 2000000
namespace M
open PySem PySem.Spec PyProof.Rows L2

theorem same_poolY {H H1 H2 : Hp} {p : Addr} (s : Same H H1) (n : H p = none) (b : But p H1 H2) : Same H H2 := fun c o e => b c o (ne_of_none e n) (s c o e)
theorem dep_at {i : Int} (h : 0 ≤ i ∧ i < 9) : ∃ d : Nat, d ≤ 7 ∧ atI [V.int 0, .int 1, .int 2, .int 3, .int 4, .int 5, .int 6, .int 6, .int 7] i = some (.int (d : Nat)) := by
  have : i = 0 ∨ i = 1 ∨ i = 2 ∨ i = 3 ∨ i = 4 ∨ i = 5 ∨ i = 6 ∨ i = 7 ∨ i = 8 := by omega
  rcases this with rfl | rfl | rfl | rfl | rfl | rfl | rfl | rfl | rfl
  · exact ⟨0, by decide, rfl⟩
  · exact ⟨1, by decide, rfl⟩
  · exact ⟨2, by decide, rfl⟩
  · exact ⟨3, by decide, rfl⟩
  · exact ⟨4, by decide, rfl⟩
  · exact ⟨5, by decide, rfl⟩
  · exact ⟨6, by decide, rfl⟩
  · exact ⟨6, by decide, rfl⟩
  · exact ⟨7, by decide, rfl⟩
theorem pool_someY {H : Hp} {p : Addr} (h : PoolAt H p) : H p ≠ none := by
  obtain ⟨_, _, _, e, _⟩ := h
  rw [e]
  exact fun z => nomatch z
theorem le_step {a b : Nat} (h1 : a ≤ 1009) (h2 : b ≤ 3030) : a + b ≤ sizeLine := by
  rw [sizeLine_eq]
  omega
theorem len_step {x y : Str} (h1 : x.length ≤ 1009) (h2 : y.length ≤ 3030) : (x ++ y).length ≤ 5000 := by
  rw [len_app]
  omega
theorem l_a : ("a" : Str).length = 1 := by decide +kernel
theorem l_1 : ("+1)" : Str).length = 3 := by decide +kernel
section
variable {P : Program} {w : World} {K : PySem.W.Frag} {mg : Str → Option Value} {base : Heap}
open Y
def Mid (K : PySem.W.Frag) (B : Hp) (pre : List (Option V)) (n : Nat) (σ : L2.St) (H : Hp) : Prop := ∃ (vt : V) (ot : Od) (s : Str) (z12 z13 : Option V), σ = pre ++ [some vt, some (.str s), z12, z13] ∧ Same B H ∧ Oa K H vt ot ∧ okO ot ∧ s.length ≤ n
def Mid2 (K : PySem.W.Frag) (B : Hp) (pre : List (Option V)) (σ : L2.St) (H : Hp) : Prop := ∃ (vt vx : V) (ot ox : Od) (z12 z13 : Option V), σ = pre ++ [some vt, some vx, z12, z13] ∧ Same B H ∧ Oa K H vt ot ∧ okO ot ∧ Oa K H vx ox ∧ lenO ox
def spLaw (K : PySem.W.Frag) : Sp := fun vs H Q _ => ∃ (a : Addr) (ns : List Int), vs = [.ref a] ∧ SqL K H a (ns.map V.int) ∧ ns.length ≤ 63 ∧ ∀ H', Q (.bl true) H'
theorem ok_law {fd : FuncData} (T : Txt w K mg) (F : FunD K "law" "law" (defArgs s_law) (defBody s_law) (defScope s_law) [] [] (He.fAd K ("law", none)) fd) : FnOk P w K mg base CX0 17 (He.fAd K ("law", none)) fd ["_law_script"] (spLaw K) := by
  refine fn_d (N := ["_law_script", "_law_pool_here", "_law_choice", "_law_depth", "_law_wrap", "_law_odd_here", "_law_first", "_law_second", "_law_kinds", "_law_signs", "_law_thing", "_law_text_here", "_law_turn", "_law_many"]) (ps := ["_law_script"]) F ⟨rfl, rfl, rfl, by decide +kernel, rfl, by decide +kernel, by decide +kernel⟩
    (fun vs H Q E h => by obtain ⟨a, ns, rfl, ha, hl, q⟩ := h; rfl) (fun cdv A outer s H vs Q E hr h => ?_)
  have nd : (["_law_script", "_law_pool_here", "_law_choice", "_law_depth", "_law_wrap", "_law_odd_here", "_law_first", "_law_second", "_law_kinds", "_law_signs", "_law_thing", "_law_text_here", "_law_turn", "_law_many"] : List Str).Nodup := by decide +kernel
  obtain ⟨a, ns, rfl, ha, hl, q⟩ := h
  refine ⟨_, (pss_cons (ps_set (i := 1) nd rfl (.inl rfl) (pe_ca (ca_l_pool T) hr (pa_cons (pv 0) (pa_cons pe_int pa_nil))))
      (pss_cons (ps_set (i := 2) nd rfl (.inl rfl) (pe_ca (ca_l_draw T) hr (pa_cons (pv 1) (pa_cons pe_int pa_nil))))
      (pss_cons (ps_set (i := 3) nd rfl (.inl rfl) (pe_ix ix_list (pe_lst (pa_cons pe_int (pa_cons pe_int (pa_cons pe_int (pa_cons pe_int (pa_cons pe_int (pa_cons pe_int (pa_cons pe_int (pa_cons pe_int (pa_cons pe_int pa_nil)))))))))) (pe_ca (ca_l_draw T) hr (pa_cons (pv 1) (pa_cons pe_int pa_nil))) (fun _ _ => rfl)))
      (pss_cons (ps_set (i := 4) nd rfl (.inl rfl) (pe_ca (ca_l_draw T) hr (pa_cons (pv 1) (pa_cons pe_int pa_nil))))
      (pss_cons (ps_set (i := 5) nd rfl (.inl rfl) (pe_ca (ca_l_odd T) hr (pa_cons (pe_ca (ca_l_draw T) hr (pa_cons (pv 1) (pa_cons pe_int pa_nil))) pa_nil)))
      (pss_cons (ps_set (i := 6) nd rfl (.inl rfl) (pe_ca (ca_l_draw T) hr (pa_cons (pv 1) (pa_cons pe_int pa_nil))))
      (pss_cons (ps_set (i := 7) nd rfl (.inl rfl) (pe_ca (ca_l_draw T) hr (pa_cons (pv 1) (pa_cons pe_int pa_nil))))
      (pss_cons (ps_set (i := 8) nd rfl (.inl rfl) (pe_lst (pa_cons (pe_ca (ca_l_draw T) hr (pa_cons (pv 1) (pa_cons pe_int pa_nil))) (pa_cons (pe_ca (ca_l_draw T) hr (pa_cons (pv 1) (pa_cons pe_int pa_nil))) pa_nil))))
      (pss_cons (ps_set (i := 9) nd rfl (.inl rfl) (pe_lst (pa_cons (pe_ca (ca_l_sign T) hr (pa_cons (pv 1) pa_nil)) (pa_cons (pe_ca (ca_l_sign T) hr (pa_cons (pv 1) pa_nil)) pa_nil))))
      (pss_cons (ps_set (i := 10) nd rfl (.inl rfl) (pe_ca (ca_l_tree T 8) hr (pa_cons (pe_ca (ca_l_pool T) hr (pa_cons (pv 0) (pa_cons pe_int pa_nil))) (pa_cons (pv 3) pa_nil))))
      (pss_cons (ps_set (i := 11) nd rfl (.inl rfl) (pe_ca (ca_l_text T 8) hr (pa_cons (pv 10) pa_nil)))
      (C8.pss_cut (ps_if (pt_cmpR op_lt (pv 2) pe_int (nomark _)) (pss_one (ps_set (i := 10) nd rfl (.inl rfl) (pe_ca (ca_l_put T 8) hr (pa_cons (pv 10) (pa_cons (pe_lst (pa_cons (pe_op op_mod (pe_callTy call_int1 (by rfl) T.b_int boot_int (pa_cons (pv 6) pa_nil)) (pe_ca (ca_l_nodes T 8) hr (pa_cons (pv 10) pa_nil))) pa_nil)) (pa_cons (pv 5) pa_nil)))))) pss_nil)
      (C8.pss_cut (ps_if (pt_cmpR op_eq (pv 2) pe_int (nomark _)) (pss_one (ps_for PassesOwn.never rfl (pi_range1 rfl T.b_range (pa_cons (pv 4) pa_nil)) (pg_name (i := 12) nd rfl (.inl rfl)) (pss_one (ps_set (i := 10) nd rfl (.inl rfl) (pe_tup (pa_cons pe_str (pa_cons (pv 10) (pa_cons pe_int pa_nil)))))))) pss_nil)
      (C8.pss_cut (ps_if (PW.pt (pw_or (pt_cmpR op_eq (pv 2) pe_int (nomark _)) (pw_or1 (pt_cmpR op_eq (pv 2) pe_int (nomark _))))) (pss_one (ps_set (i := 11) nd rfl (.inl rfl) (pe_ca (ca_l_change T) hr (pa_cons (pv 11) (pa_cons (pe_ix ix_list (pv 8) pe_int (fun _ _ => rfl)) (pa_cons (pv 6) (pa_cons (pe_ix ix_list (pv 9) pe_int (fun _ _ => rfl)) pa_nil))))))) pss_nil)
      (C8.pss_cut (ps_if (pt_cmpR op_eq (pv 2) pe_int (nomark _)) (pss_one (ps_set (i := 11) nd rfl (.inl rfl) (pe_ca (ca_l_change T) hr (pa_cons (pv 11) (pa_cons (pe_ix ix_list (pv 8) pe_int (fun _ _ => rfl)) (pa_cons (pv 7) (pa_cons (pe_ix ix_list (pv 9) pe_int (fun _ _ => rfl)) pa_nil))))))) pss_nil)
      (C8.pss_cut (ps_if (pt_cmpR op_eq (pv 2) pe_int (nomark _)) (pss_cons (ps_set (i := 13) nd rfl (.inl rfl) (pe_ix ix_list (pe_lst (pa_cons (pv 6) (pa_cons (pe_op op_mod (pv 6) pe_int) (pa_cons (pe_op op_mod (pv 6) pe_int) pa_nil)))) (pe_op op_mod (pe_callTy call_int1 (by rfl) T.b_int boot_int (pa_cons (pv 7) pa_nil)) pe_int) (fun _ _ => rfl)))
      (pss_one (ps_set (i := 11) nd rfl (.inl rfl) (pe_op op_add_str (pe_op op_add_str (pe_op op_mul_str pe_str (pv 13)) pe_str) (pe_op op_mul_str pe_str (pe_op op_sub (pv 13) (pe_callTy call_int1 (by rfl) T.b_int boot_int (pa_cons (pe_cmpR op_eq (pe_op op_mod (pv 7) pe_int) pe_int (nomark _)) pa_nil)))))))) pss_nil)
      (C8.pss_cut (ps_if (pt_cmpR op_eq (pv 2) pe_int (nomark _)) (pss_one (ps_set (i := 11) nd rfl (.inl rfl) (pe_op op_add_str (pe_op op_mul_str pe_str (pe_op op_mul pe_int (pe_op op_mod (pv 6) pe_int))) (pv 11)))) pss_nil)
      (C8.pss_cut (ps_if (pt_cmpR op_eq (pv 2) pe_int (nomark _)) (pss_one (ps_set (i := 11) nd rfl (.inl rfl) (pv 5))) pss_nil)
      (pss_cons (ps_if (PW.pt (pw_or (pt_not (pt_val (pe_ca (ca_l_writes T) hr (pa_cons (pv 10) pa_nil)))) (pw_or1 (pt_not (pt_val (pe_ca (ca_l_reads T) hr (pa_cons (pv 11) pa_nil))))))) (pss_one (ps_ret pe_bl)) pss_nil)
      (pss_one (ps_ret (pe_and (pe_ca (ca_l_reads T) hr (pa_cons (pe_ca (ca_l_text T 8) hr (pa_cons (pe_ca (ca_l_tree T 8) hr (pa_cons (pe_ca (ca_l_pool T) hr (pa_cons (pv 0) (pa_cons pe_int pa_nil))) (pa_cons (pv 3) pa_nil))) pa_nil)) pa_nil)) (pe_and (pe_ca (ca_l_writes T) hr (pa_cons pe_str pa_nil)) (pe_one (pe_ca (ca_l_reads T) hr (pa_cons pe_str pa_nil)))))))))))))))))))))))))), ?_⟩
  refine ⟨_, rfl, a, ns, 0, rfl, ha, hl, by omega, fun p H1 s1 np pp => ?_⟩
  refine ⟨_, rfl, p, 10, rfl, pp, by omega, fun ch H2 b2 p2 hch => ?_⟩
  refine ⟨(by show 9 ≤ sizeLine; decide), fun DL nDL => ⟨_, rfl, p, 9, rfl, p2.same (same_new nDL), by omega, fun di H3 b3 p3 hdi => ?_⟩⟩
  have hDL := b3 _ _ (pool_nl p2 nDL) (upd_same (H := H2) (o := .lst [V.int 0, .int 1, .int 2, .int 3, .int 4, .int 5, .int 6, .int 6, .int 7]))
  obtain ⟨d, hd7, hdat⟩ := dep_at hdi
  refine ⟨DL, _, _, _, rfl, rfl, .of hDL, hdat, ?_⟩
  have b23 := (same_but (D := p) (same_new (o := .lst [V.int 0, .int 1, .int 2, .int 3, .int 4, .int 5, .int 6, .int 6, .int 7]) nDL)).trans b3
  refine ⟨_, rfl, p, 50, rfl, p3, by omega, fun wr H4 b4 p4 hwr => ?_⟩
  refine ⟨_, rfl, p, 30, rfl, p4, by omega, fun oi H5 b5 p5 hoi => ⟨oi, rfl, fun ov oo H6 s6 hov oko leno => ?_⟩⟩
  have p6 := p5.same s6
  refine ⟨_, rfl, p, 1009, rfl, p6, by omega, fun fi H7 b7 p7 hfi => ?_⟩
  refine ⟨_, rfl, p, 1013, rfl, p7, by omega, fun se H8 b8 p8 hse => ?_⟩
  refine ⟨_, rfl, p, 6, rfl, p8, by omega, fun k1 H9 b9 p9 hk1 => ⟨_, rfl, p, 6, rfl, p9, by omega, fun k2 H10 b10 p10 hk2 => ⟨(by show 2 ≤ sizeLine; decide), fun KL nKL => ?_⟩⟩⟩
  have w11 := same_new (o := .lst [.int k1, .int k2]) nKL
  have hKL : upd H10 KL (.lst [.int k1, .int k2]) KL = some (.lst [.int k1, .int k2]) := upd_same
  have nKp := pool_nl p10 nKL
  generalize upd H10 KL (.lst [.int k1, .int k2]) = H11 at w11 hKL ⊢
  have p11 := p10.same w11
  refine ⟨_, rfl, p, rfl, p11, fun g1 H12 b12 p12 hg1 => ⟨_, rfl, p, rfl, p12, fun g2 H13 b13 p13 hg2 => ⟨(by show 2 ≤ sizeLine; decide), fun SL nSL => ?_⟩⟩⟩
  have w14 := same_new (o := .lst [.str g1, .str g2]) nSL
  have hSL : upd H13 SL (.lst [.str g1, .str g2]) SL = some (.lst [.str g1, .str g2]) := upd_same
  generalize upd H13 SL (.lst [.str g1, .str g2]) = H14 at w14 hSL ⊢
  have b614 := (((((b7.trans b8).trans b9).trans b10).trans (same_but w11)).trans (b12.trans b13)).trans (same_but (D := p) w14)
  have hov14 := (hov.same (less_keep (pool_someY p5) b614)).same less_sub
  have hKL14 := w14 _ _ ((b12.trans b13) _ _ nKp hKL)
  have b214 := (((b23.trans b4).trans b5).trans (same_but s6)).trans b614
  have s14 : Same H H14 := fun b o e => b214 _ _ (ne_of_none e np) (b2 _ _ (ne_of_none e np) (s1 _ _ e))
  clear hov b2 b3 b4 b5 b7 b8 b9 b10 b12 b13 p2 p3 p4 p5 p6 p7 p8 p9 p10 p11 p12 p13 b23 b614 b214 hKL hDL w11 w14 s6 s1
  -- the tree
  refine ⟨_, rfl, a, ns, 1, rfl, s14.seq ha, hl, by omega, fun p1 H15 s15 np1 pp1 => ⟨_, rfl, p1, d, rfl, by omega, by decide, pp1, fun v e H16 b16 p16 dv ok => ?_⟩⟩
  have s16 : Same H14 H16 := same_poolY s15 np1 b16
  have ok7 := ok.up hd7
  refine ⟨_, rfl, v, e, rfl, dv, ok7, by decide, ?_⟩
  have le := etx_509 ok (by omega)
  have hKL16 := s16 _ _ hKL14
  have hSL16 := s16 _ _ hSL
  have hov16 := hov14.same s16
  have s016 := s14.trans s16
  clear hKL14 hSL hov14 s14 s15 s16 b16 np1 pp1 p16
  -- a thing
  refine ⟨Mid K H16 [some (.ref a), some (.ref p), some (.int ch), some (.int (d : Nat)), some (.int wr), some ov, some (.int fi), some (.int se), some (.ref KL), some (.ref SL)] 600, ?_, ?_⟩
  · refine ⟨_, rfl, _, _, rfl, rfl, _, rfl, ?_⟩
    by_cases c : ch < 4
    · rw [decide_eq_true c]
      refine iteT ⟨_, rfl, _, rfl, .inl ⟨_, rfl, _, rfl, v, e, rfl, dv, ok7, fun m hm => ⟨_, _, rfl, rfl, (by show (0 : Int) < m; omega), (by show 1 ≤ sizeLine; decide), fun l nl => ⟨_, rfl, ?_⟩⟩⟩⟩
      have sl := same_new (o := .lst [.int (fi % m)]) nl
      have sd := same_del nl sl
      exact ⟨v, ov, l, e, oo, _, rfl, dp_same sd dv, ok7, hov16.same sd, oko, upd_same, fun v2 o2 k2 H17 b17 hl17 hv2 ok2 => ⟨v2, o2, estr e, none, none, rfl, same_poolY sl nl b17, hv2.same del_sub, ok2, by rw [estr_len]; omega⟩⟩
    · rw [decide_eq_false c]
      exact iteF ⟨v, eo e, estr e, none, none, rfl, Same.refl _, oa_exp dv, okO_exp ok, by rw [estr_len]; omega⟩
  rintro σ' H17 ⟨vt, ot, tx, z12, z13, rfl, s17, hvt, okt, ltx⟩
  -- wrapped
  refine ⟨Mid K H16 [some (.ref a), some (.ref p), some (.int ch), some (.int (d : Nat)), some (.int wr), some ov, some (.int fi), some (.int se), some (.ref KL), some (.ref SL)] 600, ?_, ?_⟩
  · refine ⟨_, rfl, rfl, _, rfl, ?_⟩
    by_cases c : ch = 4
    · rw [decide_eq_true (show V.int ch = V.int 4 from congrArg V.int c)]
      refine iteT ⟨_, rfl, wr, rfl, by omega, by omega, for_it (n := wr.toNat) walk_range (fun j σ' H' => Mid K H16 [some (.ref a), some (.ref p), some (.int ch), some (.int (d : Nat)), some (.int wr), some ov, some (.int fi), some (.int se), some (.ref KL), some (.ref SL)] 600 σ' H') ⟨vt, ot, tx, z12, z13, rfl, s17, hvt, okt, ltx⟩ (fun _ _ _ _ _ => trivial) ?_ ?_⟩
      · rintro j z σ' H0 J hj ⟨vt, ot, tx, z12, z13, rfl, sj, hvt, okt, ltx⟩ ⟨rfl, rfl⟩
        refine ⟨_, rfl, (by show 3 ≤ sizeLine; decide), fun u nu => ?_⟩
        have su := same_new (o := .tup [.str "+", vt, .int 1]) nu
        exact ⟨.ref u, .t3 (.str "+") ot (.lf (.int 1)), tx, _, _, rfl, sj.trans su, .t3 (.of upd_same) (.str _) (hvt.same su) (.lf (.int 1) rfl), ⟨fitB_ok (by decide +kernel), okt, trivial⟩, ltx⟩
      · rintro σ' J h
        exact h
    · rw [decide_eq_false (show ¬ V.int ch = V.int 4 from fun z => c (V.int.inj z))]
      exact iteF ⟨vt, ot, tx, z12, z13, rfl, s17, hvt, okt, ltx⟩
  clear hvt okt ltx s17
  clear vt ot tx z12 z13 H17
  rintro σ' H17 ⟨vt, ot, tx, z12, z13, rfl, s17, hvt, okt, ltx⟩
  -- changed
  refine ⟨Mid K H16 [some (.ref a), some (.ref p), some (.int ch), some (.int (d : Nat)), some (.int wr), some ov, some (.int fi), some (.int se), some (.ref KL), some (.ref SL)] 1300, ?_, ?_⟩
  · refine ⟨_, rfl, rfl, _, rfl, ?_⟩
    by_cases c : ch = 5
    · rw [decide_eq_true (show V.int ch = V.int 5 from congrArg V.int c)]
      exact iteT ⟨_, rfl, _, rfl, KL, _, _, _, rfl, rfl, .of (s17 _ _ hKL16), at0, _, rfl, _, rfl, SL, _, _, _, rfl, rfl, .of (s17 _ _ hSL16), at0, tx, g1, k1, fi, rfl, by omega, hg1, fun u hu => ⟨vt, ot, u, z12, z13, rfl, s17, hvt, okt, by omega⟩⟩
    · rw [decide_eq_false (show ¬ V.int ch = V.int 5 from fun z => c (V.int.inj z))]
      refine iteF ⟨_, rfl, rfl, _, rfl, ?_⟩
      by_cases c : ch = 6
      · rw [decide_eq_true (show V.int ch = V.int 6 from congrArg V.int c)]
        exact iteT ⟨_, rfl, _, rfl, KL, _, _, _, rfl, rfl, .of (s17 _ _ hKL16), at0, _, rfl, _, rfl, SL, _, _, _, rfl, rfl, .of (s17 _ _ hSL16), at0, tx, g1, k1, fi, rfl, by omega, hg1, fun u hu => ⟨vt, ot, u, z12, z13, rfl, s17, hvt, okt, by omega⟩⟩
      · rw [decide_eq_false (show ¬ V.int ch = V.int 6 from fun z => c (V.int.inj z))]
        exact iteF ⟨vt, ot, tx, z12, z13, rfl, s17, hvt, okt, by omega⟩
  clear hvt okt ltx s17
  clear vt ot tx z12 z13 H17
  rintro σ' H17 ⟨vt, ot, tx, z12, z13, rfl, s17, hvt, okt, ltx⟩
  -- changed again
  refine ⟨Mid K H16 [some (.ref a), some (.ref p), some (.int ch), some (.int (d : Nat)), some (.int wr), some ov, some (.int fi), some (.int se), some (.ref KL), some (.ref SL)] 2700, ?_, ?_⟩
  · refine ⟨_, rfl, rfl, _, rfl, ?_⟩
    by_cases c : ch = 6
    · rw [decide_eq_true (show V.int ch = V.int 6 from congrArg V.int c)]
      exact iteT ⟨_, rfl, _, rfl, KL, _, _, _, rfl, rfl, .of (s17 _ _ hKL16), at1, _, rfl, _, rfl, SL, _, _, _, rfl, rfl, .of (s17 _ _ hSL16), at1, tx, g2, k2, se, rfl, by omega, hg2, fun u hu => ⟨vt, ot, u, z12, z13, rfl, s17, hvt, okt, by omega⟩⟩
    · rw [decide_eq_false (show ¬ V.int ch = V.int 6 from fun z => c (V.int.inj z))]
      exact iteF ⟨vt, ot, tx, z12, z13, rfl, s17, hvt, okt, by omega⟩
  clear hvt okt ltx s17
  clear vt ot tx z12 z13 H17
  rintro σ' H17 ⟨vt, ot, tx, z12, z13, rfl, s17, hvt, okt, ltx⟩
  -- brackets
  refine ⟨Mid K H16 [some (.ref a), some (.ref p), some (.int ch), some (.int (d : Nat)), some (.int wr), some ov, some (.int fi), some (.int se), some (.ref KL), some (.ref SL)] 5000, ?_, ?_⟩
  · refine ⟨_, rfl, rfl, _, rfl, ?_⟩
    by_cases c : ch = 7
    · rw [decide_eq_true (show V.int ch = V.int 7 from congrArg V.int c)]
      refine iteT ⟨_, rfl, _, rfl, _, _, rfl, rfl, (by show (0 : Int) < 9; decide), _, rfl, _, _, rfl, rfl, (by show (0 : Int) < 8; decide), (by show 3 ≤ sizeLine; decide), fun L nL => ?_⟩
      have sL := same_new (o := .lst [.int fi, .int (fi % 9), .int (fi % 8)]) nL
      have hL : upd H17 L (.lst [.int fi, .int (fi % 9), .int (fi % 8)]) L = some (.lst [.int fi, .int (fi % 9), .int (fi % 8)]) := upd_same
      have hm : ∃ m : Int, (0 ≤ m ∧ m ≤ 1008) ∧ atI [V.int fi, .int (fi % 9), .int (fi % 8)] (se % 3) = some (.int m) := by
        have : se % 3 = 0 ∨ se % 3 = 1 ∨ se % 3 = 2 := by omega
        rcases this with e | e | e
        · exact ⟨fi, by omega, by rw [e]; rfl⟩
        · exact ⟨fi % 9, by omega, by rw [e]; rfl⟩
        · exact ⟨fi % 8, by omega, by rw [e]; rfl⟩
      obtain ⟨m, bm, em⟩ := hm
      have m1 := mul_len "(" m
      have b2 : 0 ≤ (if decide (V.int (se % 5) = V.int 4) = true then (1 : Int) else 0) ∧ (if decide (V.int (se % 5) = V.int 4) = true then (1 : Int) else 0) ≤ 1 := by split <;> omega
      have m2 : ∀ k : Int, k ≤ 1008 → (Txt.mul "+1)" k).length ≤ 3030 := fun k hk => by
        have := mul_len "+1)" k
        rw [l_1] at this
        omega
      rw [l_lp] at m1
      have mk : m - (if decide (V.int (se % 5) = V.int 4) = true then (1 : Int) else 0) ≤ 1008 := by omega
      have l9 : (Txt.mul "(" m ++ ("a" : Str)).length ≤ 1009 := by
        rw [len_app, l_a]
        omega
      refine ⟨_, rfl, .inl ⟨_, rfl, _, _, rfl, rfl, (by show (0 : Int) < 3; decide), L, _, _, _, rfl, rfl, .of hL, em, ?_⟩⟩
      refine ⟨_, rfl, _, m, rfl, rfl, by omega, by rw [l_lp]; omega, _, _, rfl, rfl, by rw [sizeLine_eq, l_a]; omega, ?_⟩
      refine ⟨_, rfl, _, rfl, _, _, rfl, rfl, (by show (0 : Int) < 5; decide), rfl, .inr ⟨_, rfl, _, _, rfl, rfl, _, _, rfl, rfl, by omega, by rw [l_1]; omega, _, _, rfl, rfl, le_step l9 (m2 _ mk), ?_⟩⟩
      exact ⟨vt, ot, _, z12, _, rfl, s17.trans sL, hvt.same sL, okt, len_step l9 (m2 _ mk)⟩
    · rw [decide_eq_false (show ¬ V.int ch = V.int 7 from fun z => c (V.int.inj z))]
      exact iteF ⟨vt, ot, tx, z12, z13, rfl, s17, hvt, okt, by omega⟩
  clear hvt okt ltx s17
  clear vt ot tx z12 z13 H17
  rintro σ' H17 ⟨vt, ot, tx, z12, z13, rfl, s17, hvt, okt, ltx⟩
  -- many brackets
  refine ⟨Mid K H16 [some (.ref a), some (.ref p), some (.int ch), some (.int (d : Nat)), some (.int wr), some ov, some (.int fi), some (.int se), some (.ref KL), some (.ref SL)] 8000, ?_, ?_⟩
  · refine ⟨_, rfl, rfl, _, rfl, ?_⟩
    by_cases c : ch = 8
    · rw [decide_eq_true (show V.int ch = V.int 8 from congrArg V.int c)]
      have m1 := mul_len "(" (3 * (fi % 1000))
      rw [l_lp] at m1
      exact iteT ⟨_, rfl, _, _, rfl, rfl, (by show (0 : Int) < 1000; decide), _, _, rfl, rfl, .inl (by decide), _, _, rfl, rfl, by omega, by rw [l_lp]; omega, _, rfl, _, _, rfl, rfl, by rw [sizeLine_eq]; omega, vt, ot, _, z12, z13, rfl, s17, hvt, okt, by rw [len_app]; omega⟩
    · rw [decide_eq_false (show ¬ V.int ch = V.int 8 from fun z => c (V.int.inj z))]
      exact iteF ⟨vt, ot, tx, z12, z13, rfl, s17, hvt, okt, by omega⟩
  clear hvt okt ltx s17
  clear vt ot tx z12 z13 H17
  rintro σ' H17 ⟨vt, ot, tx, z12, z13, rfl, s17, hvt, okt, ltx⟩
  -- an odd thing for the text
  refine ⟨Mid2 K H16 [some (.ref a), some (.ref p), some (.int ch), some (.int (d : Nat)), some (.int wr), some ov, some (.int fi), some (.int se), some (.ref KL), some (.ref SL)], ?_, ?_⟩
  · refine ⟨_, rfl, rfl, _, rfl, ?_⟩
    by_cases c : ch = 9
    · rw [decide_eq_true (show V.int ch = V.int 9 from congrArg V.int c)]
      exact iteT ⟨_, rfl, vt, ov, ot, oo, z12, z13, rfl, s17, hvt, okt, hov16.same s17, leno⟩
    · rw [decide_eq_false (show ¬ V.int ch = V.int 9 from fun z => c (V.int.inj z))]
      exact iteF ⟨vt, .str tx, ot, .lf (.str tx), z12, z13, rfl, s17, hvt, okt, .lf (.str tx) rfl, by show tx.length ≤ 100000; omega⟩
  clear hvt okt ltx s17
  clear vt ot tx z12 z13 H17
  rintro σ' H17 ⟨vt, vx, ot, ox, z12, z13, rfl, s17, hvt, okt, hvx, lx⟩
  refine ⟨_, rfl, vt, ot, rfl, hvt, okt, fun J1 t1 => ⟨_, rfl, iteF ⟨_, rfl, vx, ox, rfl, hvx.same t1, lx, fun J2 t2 => ⟨_, rfl, iteF ?_⟩⟩⟩⟩
  have s2 := s016.trans (s17.trans (t1.trans t2))
  refine ⟨_, rfl, a, ns, 2, rfl, s2.seq ha, hl, by omega, fun p2 J3 t3 np2 pp2 => ⟨_, rfl, p2, d, rfl, by omega, by decide, pp2, fun v2 e2 J4 b4 pp4 dv2 ok2 => ?_⟩⟩
  have le2 := etx_509 ok2 (by omega)
  refine ⟨v2, e2, rfl, dv2, ok2.up hd7, by decide, .str (estr e2), .lf (.str (estr e2)), rfl, .lf (.str _) rfl, by show (estr e2).length ≤ 100000; rw [estr_len]; omega, fun J5 t5 => ⟨_, rfl, iteT ?_⟩⟩
  refine ⟨.str "x", .lf (.str "x"), rfl, .lf (.str _) rfl, fitB_ok (by decide +kernel), fun J6 t6 => ⟨_, rfl, iteT ?_⟩⟩
  exact ⟨.str "(a+0)", .lf (.str "(a+0)"), rfl, .lf (.str _) rfl, by show ("(a+0)" : Str).length ≤ 100000; decide +kernel, fun J7 t7 => q J7⟩
end

end M

open PySem PySem.W PySem.Calls PyProof.Rows
set_option maxRecDepth 100000 in
set_option maxHeartbeats 0 in
theorem PySem.Challenge.cw_pastless_k14_expressions_as_texts_holds : PySem.Challenge.rw_pastless_k14_expressions_as_texts.Holds := by
  w_on; o_law
  refine HandSHeadRun.head_any (r := OpenLaw.row PySem.Challenge.rw_pastless_k14_expressions_as_texts) (q := view (OpenLaw.row PySem.Challenge.rw_pastless_k14_expressions_as_texts).prog [36]) (H := M.hk) (ob := M.ob) (M := 8000) (loose := M.names) (d := HandSHeadRun.topDef (OpenLaw.row PySem.Challenge.rw_pastless_k14_expressions_as_texts).prog 36) (kwd := []) M.ob_eq
    (by kernel_rfl) (fun s => by kernel_rfl) M.run (by kernel_rfl) (by kernel_rfl) (by kernel_rfl) (by rfl) (by first | assumption | decide +kernel) (by decide +kernel) ⟨rfl, rfl, rfl, rfl, rfl, by decide +kernel⟩ ?hw ?hc
  case hw => w_witness2
  case hc =>
    refine L2.walk_ofE (l := PySem.Challenge.rw_pastless_k14_expressions_as_texts) (n := 63) (k := 17) (x := "_law_script") (CX := L2.CX0) rfl (by decide) (by kernel_rfl) ⟨rfl, by decide, by decide⟩ ?F (fun _ _ _ _ z => z)
    intro w mg fa h Y G hmg0
    obtain ⟨K, KX, c⟩ := Y
    have hmg : mg ("law" : PySem.Str) = some (.ref fa) := by
      have e : (HandSHeadRun.topDef (OpenLaw.row PySem.Challenge.rw_pastless_k14_expressions_as_texts).prog 36).name = ("law" : PySem.Str) := by kernel_rfl
      rw [← e]
      exact hmg0
    have T : M.Txt w K mg := ⟨⟨h, c⟩, ⟨h, KX, G⟩⟩
    have e := hmg.symm.trans T.g_law
    cases e
    obtain ⟨fd, hF⟩ := T.f_law
    have b := fun s => L2.FunD.bindsA (ps := ["_law_script"]) hF (fun _ _ _ _ _ _ us hl => match us, hl with | [_], _ => rfl) s
    exact ⟨K, fd, M.spLaw K, KX, fun s v => b s [v] rfl, fun H a ns hl hO hS => ⟨a, ns, rfl, hS, hl, fun _ => rfl⟩, fun base _ _ => M.ok_law T hF⟩
