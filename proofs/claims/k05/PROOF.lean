import PyProof.Rows.All
import Wide.All
import OpenK.AllK
import Wide.FinOn
import KE.KStateDown
import HandS.ForMost
import HandS.ForExc
import HandS.More
import HandS.Conv
import HandS.IsInst
import HandS.DictComp
import HandS.Zip
import HandS.Walk
import HandS.SetKeys
import HandS.Codes
import HandS.CallLocal
import HandS.WrittenGet
import HandS.TryMany
import HandS.ExcField
import HandS.Flow
import HandS.Style
import HandS.Evl
import HandS.Wide
import HandS.WideBits
import HandS.Defaults
import HandS.Head0
import HandS.Head1
import HandS.Head2
import HandS.HeadEnd
import HandS.HeadHook1
import HandS.HeadHook2
import HandS.HeadHook3
import HandS.HeadHook4
import PySem.Challenge.RW_pastless_k05_expressions_worked_out
set_option Elab.async false
set_option linter.all false
set_option maxRecDepth 100000
set_option maxHeartbeats 2000000
namespace M
open PySem PySem.Spec PyProof.Rows L2
def top (i : Nat) : Stmt := PySem.Challenge.pw_pastless_k05_expressions_worked_out.main.body.getD i (.Pass ⟨0, 0, 0, 0⟩)
abbrev s__wall : Stmt := top 0
abbrev s_NoVault_init : Stmt := inClass (top 8) 0
abbrev s_is_integer : Stmt := top 12
abbrev s_is_within : Stmt := top 13
abbrev s_is_tuple : Stmt := top 14
abbrev s_is_state : Stmt := top 15
abbrev s_are_falls : Stmt := top 16
abbrev s_call_numbers : Stmt := top 17
abbrev s_call_number : Stmt := top 18
abbrev s_check_state : Stmt := top 19
abbrev s_check_call : Stmt := top 20
abbrev s_Run_init : Stmt := inClass (top 23) 0
abbrev s_value_of : Stmt := top 24
abbrev s_do_read : Stmt := top 25
abbrev s_do_set : Stmt := top 26
abbrev s_do_swap : Stmt := top 27
abbrev s_do_keep : Stmt := top 28
abbrev s_do_coin : Stmt := top 29
abbrev s_do_answer : Stmt := top 30
abbrev s_do_unless : Stmt := top 31
abbrev s_do_on : Stmt := top 32
abbrev s_do_rounds : Stmt := top 33
abbrev s_do_round : Stmt := top 34
abbrev s_do_row : Stmt := top 36
abbrev s_finish : Stmt := top 37
abbrev s_finish_telling : Stmt := top 38
abbrev s_run_of : Stmt := top 41
abbrev s_start_of : Stmt := top 42
abbrev s_called : Stmt := top 43
abbrev s_steps : Stmt := top 44
abbrev s_Tally_init : Stmt := inClass (top 55) 0
abbrev s_is_expression : Stmt := top 56
abbrev s_is_part : Stmt := top 57
abbrev s_is_body_row : Stmt := top 58
abbrev s_are_body_rows : Stmt := top 59
abbrev s_is_body : Stmt := top 60
abbrev s_code_of : Stmt := top 62
abbrev s_put_rows : Stmt := top 63
abbrev s_put_if : Stmt := top 64
abbrev s_put_times : Stmt := top 65
abbrev s_Vault_init : Stmt := inClass (top 70) 0
abbrev s_Vault_sizes : Stmt := inClass (top 70) 1
abbrev s_Vault_first : Stmt := inClass (top 70) 2
abbrev s_Vault_names : Stmt := inClass (top 70) 3
abbrev s_Vault_choices : Stmt := inClass (top 70) 4
abbrev s_Vault_rows : Stmt := inClass (top 70) 5
abbrev s_Vault_calls : Stmt := inClass (top 70) 6
abbrev s_Vault_has_coins : Stmt := inClass (top 70) 7
abbrev s_Vault_shape : Stmt := inClass (top 70) 8
abbrev s_Vault_starts : Stmt := inClass (top 70) 9
abbrev s_Vault_deed : Stmt := inClass (top 70) 10
abbrev s_Vault_eq : Stmt := inClass (top 70) 11
abbrev s_has_row : Stmt := top 71
abbrev s_is_cell : Stmt := top 72
abbrev s_are_cells : Stmt := top 73
abbrev s_is_name : Stmt := top 74
abbrev s_is_deed_head : Stmt := top 75
abbrev s_is_deed : Stmt := top 76
abbrev s_are_deeds : Stmt := top 77
abbrev s_l_pool : Stmt := top 79
abbrev s_l_draw : Stmt := top 80
abbrev s_l_e : Stmt := top 81
abbrev s_l_value : Stmt := top 82
abbrev s_l_same : Stmt := top 83
abbrev s_l_tree : Stmt := top 84
abbrev s_l_chain : Stmt := top 85
abbrev s_l_due : Stmt := top 86
abbrev s_law : Stmt := top 87
abbrev dd (x : Str) (st : Stmt) : He.DefD := ⟨(x, none), x, x, defArgs st, defBody st, defScope st, [], []⟩
abbrev dm (C m q : Str) (st : Stmt) : He.DefD := ⟨(C, some m), m, q, defArgs st, defBody st, defScope st, [], []⟩
def fn : List He.DefD := [dd "_wall" s__wall, dm "NoVault" "__init__" "NoVault.__init__" s_NoVault_init, dd "is_integer" s_is_integer, dd "is_within" s_is_within, dd "is_tuple" s_is_tuple, dd "is_state" s_is_state, dd "are_falls" s_are_falls, dd "call_numbers" s_call_numbers, dd "call_number" s_call_number, dd "check_state" s_check_state, dd "check_call" s_check_call, dm "Run" "__init__" "Run.__init__" s_Run_init, dd "value_of" s_value_of, dd "do_read" s_do_read, dd "do_set" s_do_set, dd "do_swap" s_do_swap, dd "do_keep" s_do_keep, dd "do_coin" s_do_coin, dd "do_answer" s_do_answer, dd "do_unless" s_do_unless, dd "do_on" s_do_on, dd "do_rounds" s_do_rounds, dd "do_round" s_do_round, dd "do_row" s_do_row, dd "finish" s_finish, dd "finish_telling" s_finish_telling, dd "run_of" s_run_of, dd "start_of" s_start_of, dd "called" s_called, dd "steps" s_steps, dm "Tally" "__init__" "Tally.__init__" s_Tally_init, dd "is_expression" s_is_expression, dd "is_part" s_is_part, dd "is_body_row" s_is_body_row, dd "are_body_rows" s_are_body_rows, dd "is_body" s_is_body, dd "code_of" s_code_of, dd "put_rows" s_put_rows, dd "put_if" s_put_if, dd "put_times" s_put_times, dm "Vault" "__init__" "Vault.__init__" s_Vault_init, dm "Vault" "sizes" "Vault.sizes" s_Vault_sizes, dm "Vault" "first" "Vault.first" s_Vault_first, dm "Vault" "names" "Vault.names" s_Vault_names, dm "Vault" "choices" "Vault.choices" s_Vault_choices, dm "Vault" "rows" "Vault.rows" s_Vault_rows, dm "Vault" "calls" "Vault.calls" s_Vault_calls, dm "Vault" "has_coins" "Vault.has_coins" s_Vault_has_coins, dm "Vault" "shape" "Vault.shape" s_Vault_shape, dm "Vault" "starts" "Vault.starts" s_Vault_starts, dm "Vault" "_deed" "Vault._deed" s_Vault_deed, dm "Vault" "__eq__" "Vault.__eq__" s_Vault_eq, dd "has_row" s_has_row, dd "is_cell" s_is_cell, dd "are_cells" s_are_cells, dd "is_name" s_is_name, dd "is_deed_head" s_is_deed_head, dd "is_deed" s_is_deed, dd "are_deeds" s_are_deeds, dd "_law_pool" s_l_pool, dd "_law_draw" s_l_draw, dd "_law_e" s_l_e, dd "_law_value" s_l_value, dd "_law_same" s_l_same, dd "_law_tree" s_l_tree, dd "_law_chain" s_l_chain, dd "_law_due" s_l_due, dd "law" s_law]
def fa0 : List He.Fa := [.glo "_wall", .glo "is_integer", .glo "is_within", .glo "is_tuple", .glo "is_state", .glo "are_falls", .glo "call_numbers", .glo "call_number", .glo "check_state", .glo "check_call", .glo "value_of", .glo "do_read", .glo "do_set", .glo "do_swap", .glo "do_keep", .glo "do_coin", .glo "do_answer", .glo "do_unless", .glo "do_on", .glo "do_rounds", .glo "do_round", .glo "do_row", .glo "finish", .glo "finish_telling", .glo "run_of", .glo "start_of", .glo "called", .glo "steps", .glo "is_expression", .glo "is_part"]
def fa1 : List He.Fa := [.glo "is_body_row", .glo "are_body_rows", .glo "is_body", .glo "code_of", .glo "put_rows", .glo "put_if", .glo "put_times", .glo "has_row", .glo "is_cell", .glo "are_cells", .glo "is_name", .glo "is_deed_head", .glo "is_deed", .glo "are_deeds", .glo "_law_pool", .glo "_law_draw", .glo "_law_e", .glo "_law_value", .glo "_law_same", .glo "_law_tree", .glo "_law_chain", .glo "_law_due", .glo "law", .glo "PastError", .glo "NoName", .glo "NoState", .glo "NoCall", .glo "NoCoins", .glo "CoinsOut", .glo "NoVault"]
def fa2 : List He.Fa := [.glo "Run", .cls "Run", .mkr "Run", .noat "Run" "code", .noat "Run" "sides", .noat "Run" "cells", .noat "Run" "coins", .noat "Run" "fallen", .noat "Run" "held", .noat "Run" "rounds", .noat "Run" "place", .noat "Run" "result", .glo "Tally", .cls "Tally", .mkr "Tally", .noat "Tally" "cells", .noat "Tally" "coins", .noat "Tally" "lines", .glo "Vault", .cls "Vault", .mkr "Vault", .meth "Vault" "sizes", .meth "Vault" "first", .meth "Vault" "names", .meth "Vault" "choices", .meth "Vault" "rows", .meth "Vault" "calls", .meth "Vault" "has_coins", .meth "Vault" "shape", .meth "Vault" "starts"]
def fa3 : List He.Fa := [.meth "Vault" "_deed", .noat "Vault" "_cells", .noat "Vault" "_deeds", .noat "Vault" "_codes", .noat "Vault" "_coins", .free "len", .free "isinstance", .free "int", .free "abs", .free "tuple", .free "list", .free "str", .free "bool", .free "range", .free "zip", .free "enumerate", .free "set", .free "min", .free "max", .free "reversed", .free "sorted", .free "sum", .free "dict", .int "MOST_CELLS" (6), .int "GREATEST_SIZE" (9), .glo "STEPS", .glo "ACTIONS", .int "MOST_FALLS" (4), .glo "CHANGED", .glo "HELD"]
def fa4 : List He.Fa := [.glo "SIGNS", .glo "FORMS", .int "DEEPEST_EXPRESSION" (6), .int "DEEPEST_ROW" (12), .int "DEEPEST_TIMES" (2), .int "MOST_COINS" (4), .int "MOST_ROWS" (2000), .int "MOST_DEEDS" (8), .int "LONGEST_NAME" (8), .int "MOST_CHOICES" (9)]
def fa : List He.Fa := fa0 ++ fa1 ++ fa2 ++ fa3 ++ fa4
/-- the values of a written dict are tuples of texts -/
def formsB (K : PySem.W.Frag) (a : Addr) (kvs : List (Str × List Str)) : Bool := kvs.all fun q => match PySem.W.nsIn K a q.1 with
  | some (some (.ref t)) => (match K.lookup t with
    | some ⟨.type c, none, .seq its _, _⟩ => decide (c = "tuple") && (decide (its.size ≤ sizeLine) && He.relAll (q.2.map V.str) its.toList)
    | _ => false)
  | _ => false
def ts : List He.Tab := [((fun K => He.ga K "ACTIONS"), ["read", "set", "swap", "keep", "coin", "answer", "unless", "on", "rounds", "round"]), ((fun K => He.ga K "FORMS"), ["read", "set", "swap", "keep", "coin", "if", "times", "answer"])]
def ex (K : PySem.W.Frag) : Bool := He.tupB K "STEPS" [.str "read", .str "set", .str "swap"] && (He.valsB K (He.ga K "ACTIONS") [("read", .glo "do_read"), ("set", .glo "do_set"), ("swap", .glo "do_swap"), ("keep", .glo "do_keep"), ("coin", .glo "do_coin"), ("answer", .glo "do_answer"), ("unless", .glo "do_unless"), ("on", .glo "do_on"), ("rounds", .glo "do_rounds"), ("round", .glo "do_round")] && (He.tupB K "CHANGED" [.str "a", .str "b", .str "c", .str "d"] && (He.tupB K "HELD" [.str "a", .str "b", .str "c", .str "d", .str "x"] && (He.tupB K "SIGNS" [.str "+", .str "-", .str "*", .str "=", .str "<"] && (formsB K (He.ga K "FORMS") [("read", ["REG", "CELL"]), ("set", ["CELL", "E"]), ("swap", ["REG", "CELL", "E", "E"]), ("keep", ["REG", "E"]), ("coin", ["REG"]), ("if", ["E", "ROWS", "ROWS"]), ("times", ["E", "ROWS"]), ("answer", ["E"])])))))
end M

section
set_option maxRecDepth 100000
namespace M
open PySem PySem.Spec PyProof.Rows L2
set_option maxHeartbeats 0
def nm0 : List PySem.Str := ["_wall", "PastError", "NoName", "NoState", "NoCall", "NoCoins", "CoinsOut", "NoVault", "MOST_CELLS", "GREATEST_SIZE", "is_integer", "is_within", "is_tuple", "is_state", "are_falls", "call_numbers", "call_number", "check_state", "check_call", "STEPS", "Run", "value_of", "do_read", "do_set", "do_swap", "do_keep", "do_coin", "do_answer", "do_unless", "do_on"]
def nm1 : List PySem.Str := ["do_rounds", "do_round", "ACTIONS", "do_row", "finish", "finish_telling", "MOST_FALLS", "run_of", "start_of", "called", "steps", "CHANGED", "HELD", "SIGNS", "FORMS", "DEEPEST_EXPRESSION", "DEEPEST_ROW", "DEEPEST_TIMES", "MOST_COINS", "MOST_ROWS", "Tally", "is_expression", "is_part", "is_body_row", "are_body_rows", "is_body", "code_of", "put_rows", "put_if", "put_times"]
def nm2 : List PySem.Str := ["MOST_DEEDS", "LONGEST_NAME", "MOST_CHOICES", "Vault", "has_row", "is_cell", "are_cells", "is_name", "is_deed_head", "is_deed", "are_deeds", "_law_pool", "_law_draw", "_law_e", "_law_value", "_law_same", "_law_tree", "_law_chain", "_law_due"]
def names : List PySem.Str := nm0 ++ nm1 ++ nm2
abbrev R : PySem.W.OpenRow := PySem.W.OpenLaw.row PySem.Challenge.rw_pastless_k05_expressions_worked_out
abbrev hk : PySem.W.Hook := He.hookX 4 fa fn ts [] ex
def ob (s : PySem.W.SharedT) : He.AlX := He.obsX 4 fa fn ts [] ex (HandSHeadRun.getT s)
theorem ob_eq (s : PySem.W.SharedT) : ob s = hk.obs s.abs := He.obsX_eq (HandSHeadRun.getT_eq s)
theorem run_false (w : World) : HandSHeadRun.RunEq R (PySem.W.view R.prog [87]) hk ob 8000 names (w.withFollow "special-get-raises" false) := by
  intro os
  kernel_rfl
theorem run_true (w : World) : HandSHeadRun.RunEq R (PySem.W.view R.prog [87]) hk ob 8000 names (w.withFollow "special-get-raises" true) := by
  intro os
  kernel_rfl
theorem run (w : World) : HandSHeadRun.RunEq R (PySem.W.view R.prog [87]) hk ob 8000 names w :=
  PySem.W.byRow2 "special-get-raises" (P := fun w => HandSHeadRun.RunEq R (PySem.W.view R.prog [87]) hk ob 8000 names w) run_false run_true w
end M
end

namespace M
open PySem PySem.Spec PyProof.Rows L2
/-- what the top has written -/
structure Txt (w : World) (K : PySem.W.Frag) (mg : Str → Option Value) : Prop where
  says : ∃ h, He.SaysX fa fn ts [] ex w h K
  X : ∃ h : Heap, K.In h ∧ h.Ns mainGlobals mg
section
variable {P : Program} {w : World} {K : PySem.W.Frag} {mg : Str → Option Value} {base : Heap}
theorem Txt.fact (T : Txt w K mg) (i : Nat) {f : He.Fa} (h : fa[i]? = some f := by rfl) : f.ok K = true := by
  obtain ⟨_, s⟩ := T.says
  exact s.t.d.fact i h
theorem Txt.glo (T : Txt w K mg) (i : Nat) {x : Str} (h : fa[i]? = some (.glo x) := by rfl) : mg x = some (.ref (He.ga K x)) := by
  obtain ⟨_, X, G⟩ := T.X
  exact He.glo_ok X G (T.fact i h)
theorem Txt.fr (T : Txt w K mg) (i : Nat) {x : Str} (h : fa[i]? = some (.free x) := by rfl) : mg x = none := by
  obtain ⟨_, X, G⟩ := T.X
  exact He.free_ok X G (T.fact i h)
theorem Txt.int (T : Txt w K mg) (i : Nat) {x : Str} {n : Int} (h : fa[i]? = some (.int x n) := by rfl) : ∃ u, mg x = some u ∧ RelV (.int n) u := by
  obtain ⟨_, X, G⟩ := T.X
  obtain ⟨t, e⟩ := He.int_ok X G (T.fact i h)
  exact ⟨_, e, ⟨t, rfl⟩⟩
theorem Txt.fd (T : Txt w K mg) (i : Nat) {d : He.DefD} (h : fn[i]? = some d := by rfl) : ∃ f, FunD K d.name d.qual d.params d.body d.scope (d.dvs K) (d.kws K) (He.fAd K d.at_) f := by
  obtain ⟨_, s⟩ := T.says
  exact s.t.d.def_ i h
theorem Txt.ex (T : Txt w K mg) : ex K = true := by
  obtain ⟨_, s⟩ := T.says
  exact s.more
theorem Txt.tab (T : Txt w K mg) (i : Nat) {t : He.Tab} (h : ts[i]? = some t := by rfl) : ∃ es n, KDict K w (t.1 K) es n := by
  obtain ⟨_, s⟩ := T.says
  exact s.t.tab i h
end
/-! places of the facts: 0 glo "_wall"; 1 glo "is_integer"; 2 glo "is_within"; 3 glo "is_tuple"; 4 glo "is_state"; 5 glo "are_falls"; 6 glo "call_numbers"; 7 glo "call_number"; 8 glo "check_state"; 9 glo "check_call"; 10 glo "value_of"; 11 glo "do_read"; 12 glo "do_set"; 13 glo "do_swap"; 14 glo "do_keep"; 15 glo "do_coin"; 16 glo "do_answer"; 17 glo "do_unless"; 18 glo "do_on"; 19 glo "do_rounds"; 20 glo "do_round"; 21 glo "do_row"; 22 glo "finish"; 23 glo "finish_telling"; 24 glo "run_of"; 25 glo "start_of"; 26 glo "called"; 27 glo "steps"; 28 glo "is_expression"; 29 glo "is_part"; 30 glo "is_body_row"; 31 glo "are_body_rows"; 32 glo "is_body"; 33 glo "code_of"; 34 glo "put_rows"; 35 glo "put_if"; 36 glo "put_times"; 37 glo "has_row"; 38 glo "is_cell"; 39 glo "are_cells"; 40 glo "is_name"; 41 glo "is_deed_head"; 42 glo "is_deed"; 43 glo "are_deeds"; 44 glo "_law_pool"; 45 glo "_law_draw"; 46 glo "_law_e"; 47 glo "_law_value"; 48 glo "_law_same"; 49 glo "_law_tree"; 50 glo "_law_chain"; 51 glo "_law_due"; 52 glo "law"; 53 glo "PastError"; 54 glo "NoName"; 55 glo "NoState"; 56 glo "NoCall"; 57 glo "NoCoins"; 58 glo "CoinsOut"; 59 glo "NoVault"; 60 glo "Run"; 61 cls "Run"; 62 mkr "Run"; 63 noat "Run" "code"; 64 noat "Run" "sides"; 65 noat "Run" "cells"; 66 noat "Run" "coins"; 67 noat "Run" "fallen"; 68 noat "Run" "held"; 69 noat "Run" "rounds"; 70 noat "Run" "place"; 71 noat "Run" "result"; 72 glo "Tally"; 73 cls "Tally"; 74 mkr "Tally"; 75 noat "Tally" "cells"; 76 noat "Tally" "coins"; 77 noat "Tally" "lines"; 78 glo "Vault"; 79 cls "Vault"; 80 mkr "Vault"; 81 meth "Vault" "sizes"; 82 meth "Vault" "first"; 83 meth "Vault" "names"; 84 meth "Vault" "choices"; 85 meth "Vault" "rows"; 86 meth "Vault" "calls"; 87 meth "Vault" "has_coins"; 88 meth "Vault" "shape"; 89 meth "Vault" "starts"; 90 meth "Vault" "_deed"; 91 noat "Vault" "_cells"; 92 noat "Vault" "_deeds"; 93 noat "Vault" "_codes"; 94 noat "Vault" "_coins"; 95 free "len"; 96 free "isinstance"; 97 free "int"; 98 free "abs"; 99 free "tuple"; 100 free "list"; 101 free "str"; 102 free "bool"; 103 free "range"; 104 free "zip"; 105 free "enumerate"; 106 free "set"; 107 free "min"; 108 free "max"; 109 free "reversed"; 110 free "sorted"; 111 free "sum"; 112 free "dict"; 113 int "MOST_CELLS" (6); 114 int "GREATEST_SIZE" (9); 115 glo "STEPS"; 116 glo "ACTIONS"; 117 int "MOST_FALLS" (4); 118 glo "CHANGED"; 119 glo "HELD"; 120 glo "SIGNS"; 121 glo "FORMS"; 122 int "DEEPEST_EXPRESSION" (6); 123 int "DEEPEST_ROW" (12); 124 int "DEEPEST_TIMES" (2); 125 int "MOST_COINS" (4); 126 int "MOST_ROWS" (2000); 127 int "MOST_DEEDS" (8); 128 int "LONGEST_NAME" (8); 129 int "MOST_CHOICES" (9) -/
section
variable {P : Program} {w : World} {K : PySem.W.Frag} {mg : Str → Option Value} {base : Heap}
theorem Txt.g_wall (T : Txt w K mg) : mg "_wall" = some (.ref (He.ga K "_wall")) := T.glo 0
theorem Txt.g_is_integer (T : Txt w K mg) : mg "is_integer" = some (.ref (He.ga K "is_integer")) := T.glo 1
theorem Txt.g_is_within (T : Txt w K mg) : mg "is_within" = some (.ref (He.ga K "is_within")) := T.glo 2
theorem Txt.g_is_tuple (T : Txt w K mg) : mg "is_tuple" = some (.ref (He.ga K "is_tuple")) := T.glo 3
theorem Txt.g_is_state (T : Txt w K mg) : mg "is_state" = some (.ref (He.ga K "is_state")) := T.glo 4
theorem Txt.g_are_falls (T : Txt w K mg) : mg "are_falls" = some (.ref (He.ga K "are_falls")) := T.glo 5
theorem Txt.g_call_numbers (T : Txt w K mg) : mg "call_numbers" = some (.ref (He.ga K "call_numbers")) := T.glo 6
theorem Txt.g_call_number (T : Txt w K mg) : mg "call_number" = some (.ref (He.ga K "call_number")) := T.glo 7
theorem Txt.g_check_state (T : Txt w K mg) : mg "check_state" = some (.ref (He.ga K "check_state")) := T.glo 8
theorem Txt.g_check_call (T : Txt w K mg) : mg "check_call" = some (.ref (He.ga K "check_call")) := T.glo 9
theorem Txt.g_value_of (T : Txt w K mg) : mg "value_of" = some (.ref (He.ga K "value_of")) := T.glo 10
theorem Txt.g_do_read (T : Txt w K mg) : mg "do_read" = some (.ref (He.ga K "do_read")) := T.glo 11
theorem Txt.g_do_set (T : Txt w K mg) : mg "do_set" = some (.ref (He.ga K "do_set")) := T.glo 12
theorem Txt.g_do_swap (T : Txt w K mg) : mg "do_swap" = some (.ref (He.ga K "do_swap")) := T.glo 13
theorem Txt.g_do_keep (T : Txt w K mg) : mg "do_keep" = some (.ref (He.ga K "do_keep")) := T.glo 14
theorem Txt.g_do_coin (T : Txt w K mg) : mg "do_coin" = some (.ref (He.ga K "do_coin")) := T.glo 15
theorem Txt.g_do_answer (T : Txt w K mg) : mg "do_answer" = some (.ref (He.ga K "do_answer")) := T.glo 16
theorem Txt.g_do_unless (T : Txt w K mg) : mg "do_unless" = some (.ref (He.ga K "do_unless")) := T.glo 17
theorem Txt.g_do_on (T : Txt w K mg) : mg "do_on" = some (.ref (He.ga K "do_on")) := T.glo 18
theorem Txt.g_do_rounds (T : Txt w K mg) : mg "do_rounds" = some (.ref (He.ga K "do_rounds")) := T.glo 19
theorem Txt.g_do_round (T : Txt w K mg) : mg "do_round" = some (.ref (He.ga K "do_round")) := T.glo 20
theorem Txt.g_do_row (T : Txt w K mg) : mg "do_row" = some (.ref (He.ga K "do_row")) := T.glo 21
theorem Txt.g_finish (T : Txt w K mg) : mg "finish" = some (.ref (He.ga K "finish")) := T.glo 22
theorem Txt.g_finish_telling (T : Txt w K mg) : mg "finish_telling" = some (.ref (He.ga K "finish_telling")) := T.glo 23
theorem Txt.g_run_of (T : Txt w K mg) : mg "run_of" = some (.ref (He.ga K "run_of")) := T.glo 24
theorem Txt.g_start_of (T : Txt w K mg) : mg "start_of" = some (.ref (He.ga K "start_of")) := T.glo 25
theorem Txt.g_called (T : Txt w K mg) : mg "called" = some (.ref (He.ga K "called")) := T.glo 26
theorem Txt.g_steps (T : Txt w K mg) : mg "steps" = some (.ref (He.ga K "steps")) := T.glo 27
theorem Txt.g_is_expression (T : Txt w K mg) : mg "is_expression" = some (.ref (He.ga K "is_expression")) := T.glo 28
theorem Txt.g_is_part (T : Txt w K mg) : mg "is_part" = some (.ref (He.ga K "is_part")) := T.glo 29
theorem Txt.g_is_body_row (T : Txt w K mg) : mg "is_body_row" = some (.ref (He.ga K "is_body_row")) := T.glo 30
theorem Txt.g_are_body_rows (T : Txt w K mg) : mg "are_body_rows" = some (.ref (He.ga K "are_body_rows")) := T.glo 31
theorem Txt.g_is_body (T : Txt w K mg) : mg "is_body" = some (.ref (He.ga K "is_body")) := T.glo 32
theorem Txt.g_code_of (T : Txt w K mg) : mg "code_of" = some (.ref (He.ga K "code_of")) := T.glo 33
theorem Txt.g_put_rows (T : Txt w K mg) : mg "put_rows" = some (.ref (He.ga K "put_rows")) := T.glo 34
theorem Txt.g_put_if (T : Txt w K mg) : mg "put_if" = some (.ref (He.ga K "put_if")) := T.glo 35
theorem Txt.g_put_times (T : Txt w K mg) : mg "put_times" = some (.ref (He.ga K "put_times")) := T.glo 36
theorem Txt.g_has_row (T : Txt w K mg) : mg "has_row" = some (.ref (He.ga K "has_row")) := T.glo 37
theorem Txt.g_is_cell (T : Txt w K mg) : mg "is_cell" = some (.ref (He.ga K "is_cell")) := T.glo 38
theorem Txt.g_are_cells (T : Txt w K mg) : mg "are_cells" = some (.ref (He.ga K "are_cells")) := T.glo 39
theorem Txt.g_is_name (T : Txt w K mg) : mg "is_name" = some (.ref (He.ga K "is_name")) := T.glo 40
theorem Txt.g_is_deed_head (T : Txt w K mg) : mg "is_deed_head" = some (.ref (He.ga K "is_deed_head")) := T.glo 41
theorem Txt.g_is_deed (T : Txt w K mg) : mg "is_deed" = some (.ref (He.ga K "is_deed")) := T.glo 42
theorem Txt.g_are_deeds (T : Txt w K mg) : mg "are_deeds" = some (.ref (He.ga K "are_deeds")) := T.glo 43
theorem Txt.g_law_pool (T : Txt w K mg) : mg "_law_pool" = some (.ref (He.ga K "_law_pool")) := T.glo 44
theorem Txt.g_law_draw (T : Txt w K mg) : mg "_law_draw" = some (.ref (He.ga K "_law_draw")) := T.glo 45
theorem Txt.g_law_e (T : Txt w K mg) : mg "_law_e" = some (.ref (He.ga K "_law_e")) := T.glo 46
theorem Txt.g_law_value (T : Txt w K mg) : mg "_law_value" = some (.ref (He.ga K "_law_value")) := T.glo 47
theorem Txt.g_law_same (T : Txt w K mg) : mg "_law_same" = some (.ref (He.ga K "_law_same")) := T.glo 48
theorem Txt.g_law_tree (T : Txt w K mg) : mg "_law_tree" = some (.ref (He.ga K "_law_tree")) := T.glo 49
theorem Txt.g_law_chain (T : Txt w K mg) : mg "_law_chain" = some (.ref (He.ga K "_law_chain")) := T.glo 50
theorem Txt.g_law_due (T : Txt w K mg) : mg "_law_due" = some (.ref (He.ga K "_law_due")) := T.glo 51
theorem Txt.g_law (T : Txt w K mg) : mg "law" = some (.ref (He.ga K "law")) := T.glo 52
theorem Txt.g_PastError (T : Txt w K mg) : mg "PastError" = some (.ref (He.ga K "PastError")) := T.glo 53
theorem Txt.g_NoName (T : Txt w K mg) : mg "NoName" = some (.ref (He.ga K "NoName")) := T.glo 54
theorem Txt.g_NoState (T : Txt w K mg) : mg "NoState" = some (.ref (He.ga K "NoState")) := T.glo 55
theorem Txt.g_NoCall (T : Txt w K mg) : mg "NoCall" = some (.ref (He.ga K "NoCall")) := T.glo 56
theorem Txt.g_NoCoins (T : Txt w K mg) : mg "NoCoins" = some (.ref (He.ga K "NoCoins")) := T.glo 57
theorem Txt.g_CoinsOut (T : Txt w K mg) : mg "CoinsOut" = some (.ref (He.ga K "CoinsOut")) := T.glo 58
theorem Txt.g_NoVault (T : Txt w K mg) : mg "NoVault" = some (.ref (He.ga K "NoVault")) := T.glo 59
theorem Txt.g_Run (T : Txt w K mg) : mg "Run" = some (.ref (He.ga K "Run")) := T.glo 60
theorem Txt.c_Run (T : Txt w K mg) : Cls K (He.ga K "Run") := He.cls_ok (T.fact 61)
theorem Txt.k_Run (T : Txt w K mg) : Mk K (He.ga K "Run") (He.ma K (He.ga K "Run") "__init__") := He.mkr_ok (T.fact 62)
theorem Txt.n_Run_code (T : Txt w K mg) : NoAttr K (He.ga K "Run") "code" := He.noat_ok (T.fact 63)
theorem Txt.n_Run_sides (T : Txt w K mg) : NoAttr K (He.ga K "Run") "sides" := He.noat_ok (T.fact 64)
theorem Txt.n_Run_cells (T : Txt w K mg) : NoAttr K (He.ga K "Run") "cells" := He.noat_ok (T.fact 65)
theorem Txt.n_Run_coins (T : Txt w K mg) : NoAttr K (He.ga K "Run") "coins" := He.noat_ok (T.fact 66)
theorem Txt.n_Run_fallen (T : Txt w K mg) : NoAttr K (He.ga K "Run") "fallen" := He.noat_ok (T.fact 67)
theorem Txt.n_Run_held (T : Txt w K mg) : NoAttr K (He.ga K "Run") "held" := He.noat_ok (T.fact 68)
theorem Txt.n_Run_rounds (T : Txt w K mg) : NoAttr K (He.ga K "Run") "rounds" := He.noat_ok (T.fact 69)
theorem Txt.n_Run_place (T : Txt w K mg) : NoAttr K (He.ga K "Run") "place" := He.noat_ok (T.fact 70)
theorem Txt.n_Run_result (T : Txt w K mg) : NoAttr K (He.ga K "Run") "result" := He.noat_ok (T.fact 71)
theorem Txt.g_Tally (T : Txt w K mg) : mg "Tally" = some (.ref (He.ga K "Tally")) := T.glo 72
theorem Txt.c_Tally (T : Txt w K mg) : Cls K (He.ga K "Tally") := He.cls_ok (T.fact 73)
theorem Txt.k_Tally (T : Txt w K mg) : Mk K (He.ga K "Tally") (He.ma K (He.ga K "Tally") "__init__") := He.mkr_ok (T.fact 74)
theorem Txt.n_Tally_cells (T : Txt w K mg) : NoAttr K (He.ga K "Tally") "cells" := He.noat_ok (T.fact 75)
theorem Txt.n_Tally_coins (T : Txt w K mg) : NoAttr K (He.ga K "Tally") "coins" := He.noat_ok (T.fact 76)
theorem Txt.n_Tally_lines (T : Txt w K mg) : NoAttr K (He.ga K "Tally") "lines" := He.noat_ok (T.fact 77)
theorem Txt.g_Vault (T : Txt w K mg) : mg "Vault" = some (.ref (He.ga K "Vault")) := T.glo 78
theorem Txt.c_Vault (T : Txt w K mg) : Cls K (He.ga K "Vault") := He.cls_ok (T.fact 79)
theorem Txt.k_Vault (T : Txt w K mg) : Mk K (He.ga K "Vault") (He.ma K (He.ga K "Vault") "__init__") := He.mkr_ok (T.fact 80)
theorem Txt.m_Vault_sizes (T : Txt w K mg) : Meth K (He.ga K "Vault") "sizes" (He.ma K (He.ga K "Vault") "sizes") := He.meth_ok (T.fact 81)
theorem Txt.m_Vault_first (T : Txt w K mg) : Meth K (He.ga K "Vault") "first" (He.ma K (He.ga K "Vault") "first") := He.meth_ok (T.fact 82)
theorem Txt.m_Vault_names (T : Txt w K mg) : Meth K (He.ga K "Vault") "names" (He.ma K (He.ga K "Vault") "names") := He.meth_ok (T.fact 83)
theorem Txt.m_Vault_choices (T : Txt w K mg) : Meth K (He.ga K "Vault") "choices" (He.ma K (He.ga K "Vault") "choices") := He.meth_ok (T.fact 84)
theorem Txt.m_Vault_rows (T : Txt w K mg) : Meth K (He.ga K "Vault") "rows" (He.ma K (He.ga K "Vault") "rows") := He.meth_ok (T.fact 85)
theorem Txt.m_Vault_calls (T : Txt w K mg) : Meth K (He.ga K "Vault") "calls" (He.ma K (He.ga K "Vault") "calls") := He.meth_ok (T.fact 86)
theorem Txt.m_Vault_has_coins (T : Txt w K mg) : Meth K (He.ga K "Vault") "has_coins" (He.ma K (He.ga K "Vault") "has_coins") := He.meth_ok (T.fact 87)
theorem Txt.m_Vault_shape (T : Txt w K mg) : Meth K (He.ga K "Vault") "shape" (He.ma K (He.ga K "Vault") "shape") := He.meth_ok (T.fact 88)
theorem Txt.m_Vault_starts (T : Txt w K mg) : Meth K (He.ga K "Vault") "starts" (He.ma K (He.ga K "Vault") "starts") := He.meth_ok (T.fact 89)
theorem Txt.m_Vault_deed (T : Txt w K mg) : Meth K (He.ga K "Vault") "_deed" (He.ma K (He.ga K "Vault") "_deed") := He.meth_ok (T.fact 90)
theorem Txt.n_Vault_cells (T : Txt w K mg) : NoAttr K (He.ga K "Vault") "_cells" := He.noat_ok (T.fact 91)
theorem Txt.n_Vault_deeds (T : Txt w K mg) : NoAttr K (He.ga K "Vault") "_deeds" := He.noat_ok (T.fact 92)
theorem Txt.n_Vault_codes (T : Txt w K mg) : NoAttr K (He.ga K "Vault") "_codes" := He.noat_ok (T.fact 93)
theorem Txt.n_Vault_coins (T : Txt w K mg) : NoAttr K (He.ga K "Vault") "_coins" := He.noat_ok (T.fact 94)
theorem Txt.b_len (T : Txt w K mg) : mg "len" = none := T.fr 95
theorem Txt.b_isinstance (T : Txt w K mg) : mg "isinstance" = none := T.fr 96
theorem Txt.b_int (T : Txt w K mg) : mg "int" = none := T.fr 97
theorem Txt.b_abs (T : Txt w K mg) : mg "abs" = none := T.fr 98
theorem Txt.b_tuple (T : Txt w K mg) : mg "tuple" = none := T.fr 99
theorem Txt.b_list (T : Txt w K mg) : mg "list" = none := T.fr 100
theorem Txt.b_str (T : Txt w K mg) : mg "str" = none := T.fr 101
theorem Txt.b_bool (T : Txt w K mg) : mg "bool" = none := T.fr 102
theorem Txt.b_range (T : Txt w K mg) : mg "range" = none := T.fr 103
theorem Txt.b_zip (T : Txt w K mg) : mg "zip" = none := T.fr 104
theorem Txt.b_enumerate (T : Txt w K mg) : mg "enumerate" = none := T.fr 105
theorem Txt.b_set (T : Txt w K mg) : mg "set" = none := T.fr 106
theorem Txt.b_min (T : Txt w K mg) : mg "min" = none := T.fr 107
theorem Txt.b_max (T : Txt w K mg) : mg "max" = none := T.fr 108
theorem Txt.b_reversed (T : Txt w K mg) : mg "reversed" = none := T.fr 109
theorem Txt.b_sorted (T : Txt w K mg) : mg "sorted" = none := T.fr 110
theorem Txt.b_sum (T : Txt w K mg) : mg "sum" = none := T.fr 111
theorem Txt.b_dict (T : Txt w K mg) : mg "dict" = none := T.fr 112
theorem Txt.i_MOST_CELLS (T : Txt w K mg) : ∃ u, mg "MOST_CELLS" = some u ∧ RelV (.int 6) u := T.int 113
theorem Txt.i_GREATEST_SIZE (T : Txt w K mg) : ∃ u, mg "GREATEST_SIZE" = some u ∧ RelV (.int 9) u := T.int 114
theorem Txt.g_STEPS (T : Txt w K mg) : mg "STEPS" = some (.ref (He.ga K "STEPS")) := T.glo 115
theorem Txt.g_ACTIONS (T : Txt w K mg) : mg "ACTIONS" = some (.ref (He.ga K "ACTIONS")) := T.glo 116
theorem Txt.i_MOST_FALLS (T : Txt w K mg) : ∃ u, mg "MOST_FALLS" = some u ∧ RelV (.int 4) u := T.int 117
theorem Txt.g_CHANGED (T : Txt w K mg) : mg "CHANGED" = some (.ref (He.ga K "CHANGED")) := T.glo 118
theorem Txt.g_HELD (T : Txt w K mg) : mg "HELD" = some (.ref (He.ga K "HELD")) := T.glo 119
theorem Txt.g_SIGNS (T : Txt w K mg) : mg "SIGNS" = some (.ref (He.ga K "SIGNS")) := T.glo 120
theorem Txt.g_FORMS (T : Txt w K mg) : mg "FORMS" = some (.ref (He.ga K "FORMS")) := T.glo 121
theorem Txt.i_DEEPEST_EXPRESSION (T : Txt w K mg) : ∃ u, mg "DEEPEST_EXPRESSION" = some u ∧ RelV (.int 6) u := T.int 122
theorem Txt.i_DEEPEST_ROW (T : Txt w K mg) : ∃ u, mg "DEEPEST_ROW" = some u ∧ RelV (.int 12) u := T.int 123
theorem Txt.i_DEEPEST_TIMES (T : Txt w K mg) : ∃ u, mg "DEEPEST_TIMES" = some u ∧ RelV (.int 2) u := T.int 124
theorem Txt.i_MOST_COINS (T : Txt w K mg) : ∃ u, mg "MOST_COINS" = some u ∧ RelV (.int 4) u := T.int 125
theorem Txt.i_MOST_ROWS (T : Txt w K mg) : ∃ u, mg "MOST_ROWS" = some u ∧ RelV (.int 2000) u := T.int 126
theorem Txt.i_MOST_DEEDS (T : Txt w K mg) : ∃ u, mg "MOST_DEEDS" = some u ∧ RelV (.int 8) u := T.int 127
theorem Txt.i_LONGEST_NAME (T : Txt w K mg) : ∃ u, mg "LONGEST_NAME" = some u ∧ RelV (.int 8) u := T.int 128
theorem Txt.i_MOST_CHOICES (T : Txt w K mg) : ∃ u, mg "MOST_CHOICES" = some u ∧ RelV (.int 9) u := T.int 129
theorem Txt.f__wall (T : Txt w K mg) : ∃ f, FunD K "_wall" "_wall" (defArgs s__wall) (defBody s__wall) (defScope s__wall) [] [] (He.fAd K ("_wall", none)) f := T.fd 0
theorem Txt.f_NoVault_init (T : Txt w K mg) : ∃ f, FunD K "__init__" "NoVault.__init__" (defArgs s_NoVault_init) (defBody s_NoVault_init) (defScope s_NoVault_init) [] [] (He.fAd K ("NoVault", some "__init__")) f := T.fd 1
theorem Txt.f_is_integer (T : Txt w K mg) : ∃ f, FunD K "is_integer" "is_integer" (defArgs s_is_integer) (defBody s_is_integer) (defScope s_is_integer) [] [] (He.fAd K ("is_integer", none)) f := T.fd 2
theorem Txt.f_is_within (T : Txt w K mg) : ∃ f, FunD K "is_within" "is_within" (defArgs s_is_within) (defBody s_is_within) (defScope s_is_within) [] [] (He.fAd K ("is_within", none)) f := T.fd 3
theorem Txt.f_is_tuple (T : Txt w K mg) : ∃ f, FunD K "is_tuple" "is_tuple" (defArgs s_is_tuple) (defBody s_is_tuple) (defScope s_is_tuple) [] [] (He.fAd K ("is_tuple", none)) f := T.fd 4
theorem Txt.f_is_state (T : Txt w K mg) : ∃ f, FunD K "is_state" "is_state" (defArgs s_is_state) (defBody s_is_state) (defScope s_is_state) [] [] (He.fAd K ("is_state", none)) f := T.fd 5
theorem Txt.f_are_falls (T : Txt w K mg) : ∃ f, FunD K "are_falls" "are_falls" (defArgs s_are_falls) (defBody s_are_falls) (defScope s_are_falls) [] [] (He.fAd K ("are_falls", none)) f := T.fd 6
theorem Txt.f_call_numbers (T : Txt w K mg) : ∃ f, FunD K "call_numbers" "call_numbers" (defArgs s_call_numbers) (defBody s_call_numbers) (defScope s_call_numbers) [] [] (He.fAd K ("call_numbers", none)) f := T.fd 7
theorem Txt.f_call_number (T : Txt w K mg) : ∃ f, FunD K "call_number" "call_number" (defArgs s_call_number) (defBody s_call_number) (defScope s_call_number) [] [] (He.fAd K ("call_number", none)) f := T.fd 8
theorem Txt.f_check_state (T : Txt w K mg) : ∃ f, FunD K "check_state" "check_state" (defArgs s_check_state) (defBody s_check_state) (defScope s_check_state) [] [] (He.fAd K ("check_state", none)) f := T.fd 9
theorem Txt.f_check_call (T : Txt w K mg) : ∃ f, FunD K "check_call" "check_call" (defArgs s_check_call) (defBody s_check_call) (defScope s_check_call) [] [] (He.fAd K ("check_call", none)) f := T.fd 10
theorem Txt.f_Run_init (T : Txt w K mg) : ∃ f, FunD K "__init__" "Run.__init__" (defArgs s_Run_init) (defBody s_Run_init) (defScope s_Run_init) [] [] (He.fAd K ("Run", some "__init__")) f := T.fd 11
theorem Txt.f_value_of (T : Txt w K mg) : ∃ f, FunD K "value_of" "value_of" (defArgs s_value_of) (defBody s_value_of) (defScope s_value_of) [] [] (He.fAd K ("value_of", none)) f := T.fd 12
theorem Txt.f_do_read (T : Txt w K mg) : ∃ f, FunD K "do_read" "do_read" (defArgs s_do_read) (defBody s_do_read) (defScope s_do_read) [] [] (He.fAd K ("do_read", none)) f := T.fd 13
theorem Txt.f_do_set (T : Txt w K mg) : ∃ f, FunD K "do_set" "do_set" (defArgs s_do_set) (defBody s_do_set) (defScope s_do_set) [] [] (He.fAd K ("do_set", none)) f := T.fd 14
theorem Txt.f_do_swap (T : Txt w K mg) : ∃ f, FunD K "do_swap" "do_swap" (defArgs s_do_swap) (defBody s_do_swap) (defScope s_do_swap) [] [] (He.fAd K ("do_swap", none)) f := T.fd 15
theorem Txt.f_do_keep (T : Txt w K mg) : ∃ f, FunD K "do_keep" "do_keep" (defArgs s_do_keep) (defBody s_do_keep) (defScope s_do_keep) [] [] (He.fAd K ("do_keep", none)) f := T.fd 16
theorem Txt.f_do_coin (T : Txt w K mg) : ∃ f, FunD K "do_coin" "do_coin" (defArgs s_do_coin) (defBody s_do_coin) (defScope s_do_coin) [] [] (He.fAd K ("do_coin", none)) f := T.fd 17
theorem Txt.f_do_answer (T : Txt w K mg) : ∃ f, FunD K "do_answer" "do_answer" (defArgs s_do_answer) (defBody s_do_answer) (defScope s_do_answer) [] [] (He.fAd K ("do_answer", none)) f := T.fd 18
theorem Txt.f_do_unless (T : Txt w K mg) : ∃ f, FunD K "do_unless" "do_unless" (defArgs s_do_unless) (defBody s_do_unless) (defScope s_do_unless) [] [] (He.fAd K ("do_unless", none)) f := T.fd 19
theorem Txt.f_do_on (T : Txt w K mg) : ∃ f, FunD K "do_on" "do_on" (defArgs s_do_on) (defBody s_do_on) (defScope s_do_on) [] [] (He.fAd K ("do_on", none)) f := T.fd 20
theorem Txt.f_do_rounds (T : Txt w K mg) : ∃ f, FunD K "do_rounds" "do_rounds" (defArgs s_do_rounds) (defBody s_do_rounds) (defScope s_do_rounds) [] [] (He.fAd K ("do_rounds", none)) f := T.fd 21
theorem Txt.f_do_round (T : Txt w K mg) : ∃ f, FunD K "do_round" "do_round" (defArgs s_do_round) (defBody s_do_round) (defScope s_do_round) [] [] (He.fAd K ("do_round", none)) f := T.fd 22
theorem Txt.f_do_row (T : Txt w K mg) : ∃ f, FunD K "do_row" "do_row" (defArgs s_do_row) (defBody s_do_row) (defScope s_do_row) [] [] (He.fAd K ("do_row", none)) f := T.fd 23
theorem Txt.f_finish (T : Txt w K mg) : ∃ f, FunD K "finish" "finish" (defArgs s_finish) (defBody s_finish) (defScope s_finish) [] [] (He.fAd K ("finish", none)) f := T.fd 24
theorem Txt.f_finish_telling (T : Txt w K mg) : ∃ f, FunD K "finish_telling" "finish_telling" (defArgs s_finish_telling) (defBody s_finish_telling) (defScope s_finish_telling) [] [] (He.fAd K ("finish_telling", none)) f := T.fd 25
theorem Txt.f_run_of (T : Txt w K mg) : ∃ f, FunD K "run_of" "run_of" (defArgs s_run_of) (defBody s_run_of) (defScope s_run_of) [] [] (He.fAd K ("run_of", none)) f := T.fd 26
theorem Txt.f_start_of (T : Txt w K mg) : ∃ f, FunD K "start_of" "start_of" (defArgs s_start_of) (defBody s_start_of) (defScope s_start_of) [] [] (He.fAd K ("start_of", none)) f := T.fd 27
theorem Txt.f_called (T : Txt w K mg) : ∃ f, FunD K "called" "called" (defArgs s_called) (defBody s_called) (defScope s_called) [] [] (He.fAd K ("called", none)) f := T.fd 28
theorem Txt.f_steps (T : Txt w K mg) : ∃ f, FunD K "steps" "steps" (defArgs s_steps) (defBody s_steps) (defScope s_steps) [] [] (He.fAd K ("steps", none)) f := T.fd 29
theorem Txt.f_Tally_init (T : Txt w K mg) : ∃ f, FunD K "__init__" "Tally.__init__" (defArgs s_Tally_init) (defBody s_Tally_init) (defScope s_Tally_init) [] [] (He.fAd K ("Tally", some "__init__")) f := T.fd 30
theorem Txt.f_is_expression (T : Txt w K mg) : ∃ f, FunD K "is_expression" "is_expression" (defArgs s_is_expression) (defBody s_is_expression) (defScope s_is_expression) [] [] (He.fAd K ("is_expression", none)) f := T.fd 31
theorem Txt.f_is_part (T : Txt w K mg) : ∃ f, FunD K "is_part" "is_part" (defArgs s_is_part) (defBody s_is_part) (defScope s_is_part) [] [] (He.fAd K ("is_part", none)) f := T.fd 32
theorem Txt.f_is_body_row (T : Txt w K mg) : ∃ f, FunD K "is_body_row" "is_body_row" (defArgs s_is_body_row) (defBody s_is_body_row) (defScope s_is_body_row) [] [] (He.fAd K ("is_body_row", none)) f := T.fd 33
theorem Txt.f_are_body_rows (T : Txt w K mg) : ∃ f, FunD K "are_body_rows" "are_body_rows" (defArgs s_are_body_rows) (defBody s_are_body_rows) (defScope s_are_body_rows) [] [] (He.fAd K ("are_body_rows", none)) f := T.fd 34
theorem Txt.f_is_body (T : Txt w K mg) : ∃ f, FunD K "is_body" "is_body" (defArgs s_is_body) (defBody s_is_body) (defScope s_is_body) [] [] (He.fAd K ("is_body", none)) f := T.fd 35
theorem Txt.f_code_of (T : Txt w K mg) : ∃ f, FunD K "code_of" "code_of" (defArgs s_code_of) (defBody s_code_of) (defScope s_code_of) [] [] (He.fAd K ("code_of", none)) f := T.fd 36
theorem Txt.f_put_rows (T : Txt w K mg) : ∃ f, FunD K "put_rows" "put_rows" (defArgs s_put_rows) (defBody s_put_rows) (defScope s_put_rows) [] [] (He.fAd K ("put_rows", none)) f := T.fd 37
theorem Txt.f_put_if (T : Txt w K mg) : ∃ f, FunD K "put_if" "put_if" (defArgs s_put_if) (defBody s_put_if) (defScope s_put_if) [] [] (He.fAd K ("put_if", none)) f := T.fd 38
theorem Txt.f_put_times (T : Txt w K mg) : ∃ f, FunD K "put_times" "put_times" (defArgs s_put_times) (defBody s_put_times) (defScope s_put_times) [] [] (He.fAd K ("put_times", none)) f := T.fd 39
theorem Txt.f_Vault_init (T : Txt w K mg) : ∃ f, FunD K "__init__" "Vault.__init__" (defArgs s_Vault_init) (defBody s_Vault_init) (defScope s_Vault_init) [] [] (He.fAd K ("Vault", some "__init__")) f := T.fd 40
theorem Txt.f_Vault_sizes (T : Txt w K mg) : ∃ f, FunD K "sizes" "Vault.sizes" (defArgs s_Vault_sizes) (defBody s_Vault_sizes) (defScope s_Vault_sizes) [] [] (He.fAd K ("Vault", some "sizes")) f := T.fd 41
theorem Txt.f_Vault_first (T : Txt w K mg) : ∃ f, FunD K "first" "Vault.first" (defArgs s_Vault_first) (defBody s_Vault_first) (defScope s_Vault_first) [] [] (He.fAd K ("Vault", some "first")) f := T.fd 42
theorem Txt.f_Vault_names (T : Txt w K mg) : ∃ f, FunD K "names" "Vault.names" (defArgs s_Vault_names) (defBody s_Vault_names) (defScope s_Vault_names) [] [] (He.fAd K ("Vault", some "names")) f := T.fd 43
theorem Txt.f_Vault_choices (T : Txt w K mg) : ∃ f, FunD K "choices" "Vault.choices" (defArgs s_Vault_choices) (defBody s_Vault_choices) (defScope s_Vault_choices) [] [] (He.fAd K ("Vault", some "choices")) f := T.fd 44
theorem Txt.f_Vault_rows (T : Txt w K mg) : ∃ f, FunD K "rows" "Vault.rows" (defArgs s_Vault_rows) (defBody s_Vault_rows) (defScope s_Vault_rows) [] [] (He.fAd K ("Vault", some "rows")) f := T.fd 45
theorem Txt.f_Vault_calls (T : Txt w K mg) : ∃ f, FunD K "calls" "Vault.calls" (defArgs s_Vault_calls) (defBody s_Vault_calls) (defScope s_Vault_calls) [] [] (He.fAd K ("Vault", some "calls")) f := T.fd 46
theorem Txt.f_Vault_has_coins (T : Txt w K mg) : ∃ f, FunD K "has_coins" "Vault.has_coins" (defArgs s_Vault_has_coins) (defBody s_Vault_has_coins) (defScope s_Vault_has_coins) [] [] (He.fAd K ("Vault", some "has_coins")) f := T.fd 47
theorem Txt.f_Vault_shape (T : Txt w K mg) : ∃ f, FunD K "shape" "Vault.shape" (defArgs s_Vault_shape) (defBody s_Vault_shape) (defScope s_Vault_shape) [] [] (He.fAd K ("Vault", some "shape")) f := T.fd 48
theorem Txt.f_Vault_starts (T : Txt w K mg) : ∃ f, FunD K "starts" "Vault.starts" (defArgs s_Vault_starts) (defBody s_Vault_starts) (defScope s_Vault_starts) [] [] (He.fAd K ("Vault", some "starts")) f := T.fd 49
theorem Txt.f_Vault_deed (T : Txt w K mg) : ∃ f, FunD K "_deed" "Vault._deed" (defArgs s_Vault_deed) (defBody s_Vault_deed) (defScope s_Vault_deed) [] [] (He.fAd K ("Vault", some "_deed")) f := T.fd 50
theorem Txt.f_Vault_eq (T : Txt w K mg) : ∃ f, FunD K "__eq__" "Vault.__eq__" (defArgs s_Vault_eq) (defBody s_Vault_eq) (defScope s_Vault_eq) [] [] (He.fAd K ("Vault", some "__eq__")) f := T.fd 51
theorem Txt.f_has_row (T : Txt w K mg) : ∃ f, FunD K "has_row" "has_row" (defArgs s_has_row) (defBody s_has_row) (defScope s_has_row) [] [] (He.fAd K ("has_row", none)) f := T.fd 52
theorem Txt.f_is_cell (T : Txt w K mg) : ∃ f, FunD K "is_cell" "is_cell" (defArgs s_is_cell) (defBody s_is_cell) (defScope s_is_cell) [] [] (He.fAd K ("is_cell", none)) f := T.fd 53
theorem Txt.f_are_cells (T : Txt w K mg) : ∃ f, FunD K "are_cells" "are_cells" (defArgs s_are_cells) (defBody s_are_cells) (defScope s_are_cells) [] [] (He.fAd K ("are_cells", none)) f := T.fd 54
theorem Txt.f_is_name (T : Txt w K mg) : ∃ f, FunD K "is_name" "is_name" (defArgs s_is_name) (defBody s_is_name) (defScope s_is_name) [] [] (He.fAd K ("is_name", none)) f := T.fd 55
theorem Txt.f_is_deed_head (T : Txt w K mg) : ∃ f, FunD K "is_deed_head" "is_deed_head" (defArgs s_is_deed_head) (defBody s_is_deed_head) (defScope s_is_deed_head) [] [] (He.fAd K ("is_deed_head", none)) f := T.fd 56
theorem Txt.f_is_deed (T : Txt w K mg) : ∃ f, FunD K "is_deed" "is_deed" (defArgs s_is_deed) (defBody s_is_deed) (defScope s_is_deed) [] [] (He.fAd K ("is_deed", none)) f := T.fd 57
theorem Txt.f_are_deeds (T : Txt w K mg) : ∃ f, FunD K "are_deeds" "are_deeds" (defArgs s_are_deeds) (defBody s_are_deeds) (defScope s_are_deeds) [] [] (He.fAd K ("are_deeds", none)) f := T.fd 58
theorem Txt.f_l_pool (T : Txt w K mg) : ∃ f, FunD K "_law_pool" "_law_pool" (defArgs s_l_pool) (defBody s_l_pool) (defScope s_l_pool) [] [] (He.fAd K ("_law_pool", none)) f := T.fd 59
theorem Txt.f_l_draw (T : Txt w K mg) : ∃ f, FunD K "_law_draw" "_law_draw" (defArgs s_l_draw) (defBody s_l_draw) (defScope s_l_draw) [] [] (He.fAd K ("_law_draw", none)) f := T.fd 60
theorem Txt.f_l_e (T : Txt w K mg) : ∃ f, FunD K "_law_e" "_law_e" (defArgs s_l_e) (defBody s_l_e) (defScope s_l_e) [] [] (He.fAd K ("_law_e", none)) f := T.fd 61
theorem Txt.f_l_value (T : Txt w K mg) : ∃ f, FunD K "_law_value" "_law_value" (defArgs s_l_value) (defBody s_l_value) (defScope s_l_value) [] [] (He.fAd K ("_law_value", none)) f := T.fd 62
theorem Txt.f_l_same (T : Txt w K mg) : ∃ f, FunD K "_law_same" "_law_same" (defArgs s_l_same) (defBody s_l_same) (defScope s_l_same) [] [] (He.fAd K ("_law_same", none)) f := T.fd 63
theorem Txt.f_l_tree (T : Txt w K mg) : ∃ f, FunD K "_law_tree" "_law_tree" (defArgs s_l_tree) (defBody s_l_tree) (defScope s_l_tree) [] [] (He.fAd K ("_law_tree", none)) f := T.fd 64
theorem Txt.f_l_chain (T : Txt w K mg) : ∃ f, FunD K "_law_chain" "_law_chain" (defArgs s_l_chain) (defBody s_l_chain) (defScope s_l_chain) [] [] (He.fAd K ("_law_chain", none)) f := T.fd 65
theorem Txt.f_l_due (T : Txt w K mg) : ∃ f, FunD K "_law_due" "_law_due" (defArgs s_l_due) (defBody s_l_due) (defScope s_l_due) [] [] (He.fAd K ("_law_due", none)) f := T.fd 66
theorem Txt.f_law (T : Txt w K mg) : ∃ f, FunD K "law" "law" (defArgs s_law) (defBody s_law) (defScope s_law) [] [] (He.fAd K ("law", none)) f := T.fd 67
theorem Txt.e_STEPS (T : Txt w K mg) : He.tupB K "STEPS" [.str "read", .str "set", .str "swap"] = true := (He.ba T.ex).1
theorem Txt.e_ACTIONS (T : Txt w K mg) : He.valsB K (He.ga K "ACTIONS") [("read", .glo "do_read"), ("set", .glo "do_set"), ("swap", .glo "do_swap"), ("keep", .glo "do_keep"), ("coin", .glo "do_coin"), ("answer", .glo "do_answer"), ("unless", .glo "do_unless"), ("on", .glo "do_on"), ("rounds", .glo "do_rounds"), ("round", .glo "do_round")] = true := (He.ba (He.ba T.ex).2).1
theorem Txt.e_CHANGED (T : Txt w K mg) : He.tupB K "CHANGED" [.str "a", .str "b", .str "c", .str "d"] = true := (He.ba (He.ba (He.ba T.ex).2).2).1
theorem Txt.e_HELD (T : Txt w K mg) : He.tupB K "HELD" [.str "a", .str "b", .str "c", .str "d", .str "x"] = true := (He.ba (He.ba (He.ba (He.ba T.ex).2).2).2).1
theorem Txt.e_SIGNS (T : Txt w K mg) : He.tupB K "SIGNS" [.str "+", .str "-", .str "*", .str "=", .str "<"] = true := (He.ba (He.ba (He.ba (He.ba (He.ba T.ex).2).2).2).2).1
theorem Txt.e_FORMS (T : Txt w K mg) : formsB K (He.ga K "FORMS") [("read", ["REG", "CELL"]), ("set", ["CELL", "E"]), ("swap", ["REG", "CELL", "E", "E"]), ("keep", ["REG", "E"]), ("coin", ["REG"]), ("if", ["E", "ROWS", "ROWS"]), ("times", ["E", "ROWS"]), ("answer", ["E"])] = true := (He.ba (He.ba (He.ba (He.ba (He.ba T.ex).2).2).2).2).2
theorem Txt.t_ACTIONS (T : Txt w K mg) : ∃ es n, KDict K w (He.ga K "ACTIONS") es n := T.tab 0
theorem Txt.t_FORMS (T : Txt w K mg) : ∃ es n, KDict K w (He.ga K "FORMS") es n := T.tab 1
end
end M

set_option Elab.async false
set_option linter.all false
set_option maxRecDepth 100000
set_option maxHeartbeats 2000000
namespace M
open PySem PySem.Spec PyProof.Rows L2
/-! ### defs by their names, what they promise -/
/-- the global name x holds a def that keeps sp at level k -/
structure Ca (P : Program) (w : World) (K : PySem.W.Frag) (mg : Str → Option Value) (base : Heap) (k : Nat) (x : Str) (sp : Sp) : Prop where
  ex : ∃ (f : Addr) (fd : FuncData) (ps : List Str), FnOk P w K mg base CX0 k f fd ps sp ∧ mg x = some (.ref f) ∧ PySem.W.keepIn K (.ref f) = true ∧ Binds K fd ps []
/-- a method of the class C -/
structure Me (P : Program) (w : World) (K : PySem.W.Frag) (mg : Str → Option Value) (base : Heap) (k : Nat) (C : Addr) (m : Str) (sp : Sp) : Prop where
  ex : ∃ (f : Addr) (fd : FuncData) (ps : List Str), Cls K C ∧ Meth K C m f ∧ FnOk P w K mg base CX0 k f fd ps sp ∧ Binds K fd ps []
/-- the class x is made by its __init__ -/
structure Ma (P : Program) (w : World) (K : PySem.W.Frag) (mg : Str → Option Value) (base : Heap) (k : Nat) (x : Str) (C : Addr) (sp : Sp) : Prop where
  ex : ∃ (f : Addr) (fd : FuncData) (ps : List Str), Mk K C f ∧ FnOk P w K mg base CX0 k f fd ps sp ∧ mg x = some (.ref C) ∧ Binds K fd ps []
section
variable {P : Program} {w : World} {K : PySem.W.Frag} {mg : Str → Option Value} {base : Heap} {x m q : Str} {st : Stmt} {N ps : List Str} {k : Nat} {sp : Sp} {C f : Addr}
abbrev BindsH (x q : Str) (st : Stmt) (ps : List Str) : Prop := ∀ (kV doc pm : Value) (an : Option Addr) (cdv ct : Value) (us : List Value), us.length = ps.length → bindArgs (PySem.W.fnOf x q (defArgs st) (defBody st) (defScope st) .none kV doc pm an cdv ct) ⟨us, []⟩ = pure (ps.zip us)
abbrev BodyH (P : Program) (w : World) (K : PySem.W.Frag) (mg : Str → Option Value) (base : Heap) (q : Str) (st : Stmt) (N : List Str) (k : Nat) (f : Addr) (sp : Sp) : Prop := ∀ (cdv : Value) (A : Around) (outer : List Env) (s : Shared) (H : Hp) (vs : List V) (Q : VK) (E : XK), Room k (A.deeper (envOfC q (defScope st) s.heap.objs.size f cdv)) → sp vs H Q E →
      ∃ t, PSs (cxOf CX0 P w K mg base N q (defScope st) f cdv A outer s H E).nox (defBody st) t ∧ t { nx := fun _ H' => Q .non H', rt := Q } (start N vs) H
theorem fn_d {fd : FuncData} (F : FunD K x q (defArgs st) (defBody st) (defScope st) [] [] f fd) (S : FnScope N ps (defScope st)) (len : ∀ vs H Q E, sp vs H Q E → vs.length = ps.length)
    (hbody : BodyH P w K mg base q st N k f sp) : FnOk P w K mg base CX0 (k + 1) f fd ps sp := by
  refine F.ok S len (fun cdv A outer s H vs Q E hr h => ?_)
  obtain ⟨t, h1, h2⟩ := hbody cdv A outer s H vs Q E hr h
  exact ⟨t, h1.nox, h2⟩
theorem ca_of (F : ∃ fd, FunD K x x (defArgs st) (defBody st) (defScope st) [] [] (He.fAd K (x, none)) fd) (g : mg x = some (.ref (He.ga K x))) (S : FnScope N ps (defScope st)) (hb : BindsH x x st ps) (len : ∀ vs H Q E, sp vs H Q E → vs.length = ps.length)
    (hbody : BodyH P w K mg base x st N k (He.fAd K (x, none)) sp) : Ca P w K mg base (k + 1) x sp := by
  obtain ⟨fd, F⟩ := F
  exact ⟨_, fd, ps, fn_d F S len hbody, g, F.kp, F.bindsN hb⟩
theorem me_of {C : Str} (F : ∃ fd, FunD K m q (defArgs st) (defBody st) (defScope st) [] [] (He.fAd K (C, some m)) fd) (c : Cls K (He.ga K C)) (g : Meth K (He.ga K C) m (He.ma K (He.ga K C) m)) (S : FnScope N ps (defScope st)) (hb : BindsH m q st ps) (len : ∀ vs H Q E, sp vs H Q E → vs.length = ps.length)
    (hbody : BodyH P w K mg base q st N k (He.fAd K (C, some m)) sp) : Me P w K mg base (k + 1) (He.ga K C) m sp := by
  obtain ⟨fd, F⟩ := F
  exact ⟨_, fd, ps, c, g, fn_d F S len hbody, F.bindsN hb⟩
theorem ma_of {C : Str} (F : ∃ fd, FunD K "__init__" q (defArgs st) (defBody st) (defScope st) [] [] (He.fAd K (C, some "__init__")) fd) (g : mg C = some (.ref (He.ga K C))) (mk : Mk K (He.ga K C) (He.ma K (He.ga K C) "__init__")) (S : FnScope N ps (defScope st)) (hb : BindsH "__init__" q st ps) (len : ∀ vs H Q E, sp vs H Q E → vs.length = ps.length)
    (hbody : BodyH P w K mg base q st N k (He.fAd K (C, some "__init__")) sp) : Ma P w K mg base (k + 1) C (He.ga K C) sp := by
  obtain ⟨fd, F⟩ := F
  exact ⟨_, fd, ps, mk, fn_d F S len hbody, g, F.bindsN hb⟩
theorem Ca.mono {j : Nat} (c : Ca P w K mg base j x sp) (h : j ≤ k) : Ca P w K mg base k x sp := by
  obtain ⟨f, fd, ps, F, r⟩ := c.ex
  exact ⟨f, fd, ps, F.mono h, r⟩
end
section
variable {X : Cx} {k j : Nat} {x m : Str} {sp : Sp} {C : Addr} {p pos apos : Pos} {e o : Expr} {es : List Expr} {t : TA} {ta : TE}
theorem pe_ca (c : Ca X.prog X.w X.K X.mg X.base k x sp) (hr : Room j X.A) (ha : PA X (e :: es) t) (hk : k ≤ j := by decide) (hg : Gl X x := by rfl)
    (hdb : (x == ("__debug__" : Str)) = false := by decide) (he : starEach (e :: es) X.env = (false, eval e X.env) :: starEach es X.env := by rfl) (hpl : (backTo pos (starEach es X.env)).any (·.1) = false := by rfl) :
    PE X (.Call (.Name x p) (e :: es) [] pos) (tCall sp [] E0 t) := by
  obtain ⟨f, fd, ps, F, hm, kp, b⟩ := c.ex
  exact pe_call F (hr.mono hk) hg hm kp b .nil pass0 ha hdb he hpl
theorem pe_ma (c : Ma X.prog X.w X.K X.mg X.base k x C sp) (hr : Room j X.A) (ha : PA X (e :: es) t) (hk : k + 1 ≤ j := by decide) (hg : Gl X x := by rfl)
    (hdb : (x == ("__debug__" : Str)) = false := by decide) (he : starEach (e :: es) X.env = (false, eval e X.env) :: starEach es X.env := by rfl) (hpl : (backTo pos (starEach es X.env)).any (·.1) = false := by rfl) :
    PE X (.Call (.Name x p) (e :: es) [] pos) (tMake C sp [] E0 t) := by
  obtain ⟨f, fd, ps, M, F, hm, b⟩ := c.ex
  exact pe_make M F (hr.mono hk) hg hm b .nil pass0 ha hdb he hpl
theorem pe_me0 {pl : Sem Bool} (c : Me X.prog X.w X.K X.mg X.base k C m sp) (hr : Room j X.A) (he : PE X o ta) (hk : k ≤ j := by decide)
    (ht : eval (.Call (.Attribute o m apos) [] [] pos) X.env = (do
      let ov ← eval o X.env
      standAt apos.atName
      let (f, first) ← holding [ov] (getMethod ov m pl)
      callWith pos f first (backTo pos (starEach [] X.env)) (backToKw pos (keywordEach [] X.env))) := by rfl) :
    PE X (.Call (.Attribute o m apos) [] [] pos) (tMeth C m sp [] E0 ta tNil) := by
  obtain ⟨f, fd, ps, hc, hm, F, b⟩ := c.ex
  exact pe_meth0 (pl := pl) he hc hm F (hr.mono hk) b .nil pass0 ht
theorem pe_me {pl : Sem Bool} (c : Me X.prog X.w X.K X.mg X.base k C m sp) (hr : Room j X.A) (he : PE X o ta) (ha : PA X (e :: es) t) (hk : k ≤ j := by decide)
    (hst : starEach (e :: es) X.env = (false, eval e X.env) :: starEach es X.env := by rfl) (hpl : (backTo pos (starEach es X.env)).any (·.1) = false := by rfl)
    (ht : eval (.Call (.Attribute o m apos) (e :: es) [] pos) X.env = (do
      let ov ← eval o X.env
      standAt apos.atName
      let (f, first) ← holding [ov] (getMethod ov m pl)
      callWith pos f first (backTo pos (starEach (e :: es) X.env)) (backToKw pos (keywordEach [] X.env))) := by rfl) :
    PE X (.Call (.Attribute o m apos) (e :: es) [] pos) (tMeth C m sp [] E0 ta t) := by
  obtain ⟨f, fd, ps, hc, hm, F, b⟩ := c.ex
  exact pe_meth (pl := pl) he hc hm F (hr.mono hk) b .nil pass0 ha hst hpl ht
/-- isinstance(a, b) -/
theorem pe_isi {a b : Expr} {ta tb : TE} (h : X.mg "isinstance" = none) (ha : PE X a ta) (hb : PE X b tb) (hg : Gl X "isinstance" := by rfl)
    (he : starEach [a, b] X.env = (false, eval a X.env) :: starEach [b] X.env := by rfl) (hpl : (backTo pos (starEach [b] X.env)).any (·.1) = false := by rfl)
    (he2 : starEach [b] X.env = (false, eval b X.env) :: starEach [] X.env := by rfl) :
    PE X (.Call (.Name "isinstance" p) [a, b] [] pos) (tCB (rIsi X.K) (tCons ta (tCons tb tNil))) :=
  pe_callB call_isi hg h boot_isinstance (pa_cons ha (pa_cons hb pa_nil he2) he) (he := he) (hpl := hpl)
/-- a built-in class as a value -/
theorem pe_ty {n : String} {x : Str} (h : X.mg x = none) (hv : bootBuiltins x = some (.type n)) (hg : Gl X x := by rfl) (hn : x ≠ "__name__" := by decide) (hd : (x == ("__debug__" : Str)) = false := by decide) : PE X (.Name x pos) (tC (.ty n)) := pe_bltn hg h hv rfl hn hd
theorem pe_gi {n : Int} {x : Str} (h : ∃ u, X.mg x = some u ∧ RelV (.int n) u) (hg : Gl X x := by rfl) (hd : (x == ("__debug__" : Str)) = false := by decide) : PE X (.Name x pos) (tC (.int n)) := by
  obtain ⟨u, hm, r⟩ := h
  exact pe_glob hg hm r hd
theorem pe_gr {x : Str} {a : Addr} (h : X.mg x = some (.ref a)) (hg : Gl X x := by rfl) (hd : (x == ("__debug__" : Str)) = false := by decide) : PE X (.Name x pos) (tC (.ref a)) := pe_glob hg h rfl hd
end
section
variable {X : Cx} {i j k : Nat} {x y z : Str} {p1 p2 p3 pos : Pos} {n : Nat}
/-- a, b as a target -/
theorem pg_two (K : PySem.W.Frag) (i j : Nat) (hK : X.K = K) (hc : X.calm = true) (nd : X.N.Nodup) (hi : X.N[i]? = some x) (hj : X.N[j]? = some y) (hx : Loc X.env.scope x) (hy : Loc X.env.scope y)
    (fx : X.fn x = true ∨ X.env.scope.names.lookup x = some .local) (fy : X.fn y = true ∨ X.env.scope.names.lookup y = some .local) :
    PG X (.Tuple [.Name x p1, .Name y p2] n pos) (gTup K 2 (gCons (gName i) (gCons (gName j) gNil))) := hK ▸
  pg_tup hc (pgs_cons (pg_name nd hi hx fx) (pgs_cons (pg_name nd hj hy fy) pgs_nil))
/-- a, b, c as a target -/
theorem pg_three (K : PySem.W.Frag) (i j k : Nat) (hK : X.K = K) (hc : X.calm = true) (nd : X.N.Nodup) (hi : X.N[i]? = some x) (hj : X.N[j]? = some y) (hk : X.N[k]? = some z) (hx : Loc X.env.scope x) (hy : Loc X.env.scope y) (hz : Loc X.env.scope z)
    (fx : X.fn x = true ∨ X.env.scope.names.lookup x = some .local) (fy : X.fn y = true ∨ X.env.scope.names.lookup y = some .local) (fz : X.fn z = true ∨ X.env.scope.names.lookup z = some .local) :
    PG X (.Tuple [.Name x p1, .Name y p2, .Name z p3] n pos) (gTup K 3 (gCons (gName i) (gCons (gName j) (gCons (gName k) gNil)))) := hK ▸
  pg_tup hc (pgs_cons (pg_name nd hi hx fx) (pgs_cons (pg_name nd hj hy fy) (pgs_cons (pg_name nd hk hz fz) pgs_nil)))
end
theorem boot_int : bootBuiltins "int" = some (.type "int") := by decide +kernel
theorem boot_bool : bootBuiltins "bool" = some (.type "bool") := by decide +kernel
theorem boot_str : bootBuiltins "str" = some (.type "str") := by decide +kernel
theorem boot_list : bootBuiltins "list" = some (.type "list") := by decide +kernel
theorem boot_tuple : bootBuiltins "tuple" = some (.type "tuple") := by decide +kernel
theorem boot_abs : bootBuiltins "abs" = some (.builtin "abs") := by decide +kernel
theorem boot_max : bootBuiltins "max" = some (.builtin "max") := by decide +kernel
theorem boot_min : bootBuiltins "min" = some (.builtin "min") := by decide +kernel
theorem boot_set : bootBuiltins "set" = some (.type "set") := by decide +kernel
/-! ### kinds of values -/
/-- the kinds that the program asks for -/
inductive Kd where
  | non | bool | int | str | list | tuple | dict | obj
  deriving DecidableEq
def Kd.name : Kd → String
  | .non => "NoneType" | .bool => "bool" | .int => "int" | .str => "str" | .list => "list" | .tuple => "tuple" | .dict => "dict" | .obj => "object"
/-- isinstance's answer -/
def Kd.is (k c : Kd) : Bool := decide (k = c) || (decide (k = .bool) && decide (c = .int))
theorem kd_kit {K : PySem.W.Frag} (k c : Kd) (h : k ≠ .obj) (h2 : c ≠ .obj) : PySem.W.kitOne K (.type k.name) (.type c.name) = some (k.is c) := by
  refine kit_ty ?_
  cases k <;> cases c <;> first | decide +kernel | exact absurd rfl h | exact absurd rfl h2
/-- v is of the kind k -/
inductive Of (K : PySem.W.Frag) (H : Hp) : V → Kd → Prop where
  | non : Of K H .non .non
  | bl (b : Bool) : Of K H (.bl b) .bool
  | int (i : Int) : Of K H (.int i) .int
  | str (x : Str) : Of K H (.str x) .str
  | list {a : Addr} {xs : List V} (h : SqL K H a xs) : Of K H (.ref a) .list
  | tuple {a : Addr} {xs : List V} (h : SqT K H a xs) : Of K H (.ref a) .tuple
  | dict {a : Addr} (h : TyX K H (.ref a) (.type "dict")) : Of K H (.ref a) .dict
  | obj {a C : Addr} (h : TyX K H (.ref a) (.ref C)) (hk : ∀ c : Kd, c ≠ .obj → PySem.W.kitOne K (.ref C) (.type c.name) = some false) : Of K H (.ref a) .obj
theorem ty_sqL {K : PySem.W.Frag} {H : Hp} {a : Addr} {xs : List V} (h : SqL K H a xs) : TyX K H (.ref a) (.type "list") := by
  rcases h with (h | ⟨o, h⟩) | ⟨o, its, n, h1, h2, _⟩
  · exact .base (.lst h)
  · exact .base (.frz h)
  · exact .kList h1 h2
theorem ty_sqT {K : PySem.W.Frag} {H : Hp} {a : Addr} {xs : List V} (h : SqT K H a xs) : TyX K H (.ref a) (.type "tuple") := by
  rcases h with (h | ⟨o, h⟩) | ⟨o, its, n, h1, h2, _⟩
  · exact .base (.tup h)
  · exact .fTuple h
  · exact .kTuple h1 h2
/-- what isinstance(v, c) comes to -/
theorem isi_k {K : PySem.W.Frag} {H : Hp} {v : V} {k : Kd} (c : Kd) {Q : VK} (h : Of K H v k) (q : Q (.bl (k.is c)) H) (hc : c ≠ .obj := by decide) : rIsi K [v, .ty c.name] H Q := by
  cases h with
  | non => exact ⟨_, _, _, _, _, rfl, .ty _, .base .non, kd_kit .non c (by decide) hc, q⟩
  | bl b => exact ⟨_, _, _, _, _, rfl, .ty _, .base (.bl b), kd_kit .bool c (by decide) hc, q⟩
  | int b => exact ⟨_, _, _, _, _, rfl, .ty _, .base (.int b), kd_kit .int c (by decide) hc, q⟩
  | str b => exact ⟨_, _, _, _, _, rfl, .ty _, .base (.str b), kd_kit .str c (by decide) hc, q⟩
  | list b => exact ⟨_, _, _, _, _, rfl, .ty _, ty_sqL b, kd_kit .list c (by decide) hc, q⟩
  | tuple b => exact ⟨_, _, _, _, _, rfl, .ty _, ty_sqT b, kd_kit .tuple c (by decide) hc, q⟩
  | dict b => exact ⟨_, _, _, _, _, rfl, .ty _, b, kd_kit .dict c (by decide) hc, q⟩
  | obj b hk => 
    have e : Kd.is .obj c = false := by cases c <;> first | rfl | exact absurd rfl hc
    rw [e] at q
    exact ⟨_, _, _, _, _, rfl, .ty _, b, hk c hc, q⟩
theorem pe_imp {X : Cx} {e : Expr} {t t' : TE} (h : PE X e t) (i : ∀ σ H Q, t' σ H Q → t σ H Q) : PE X e t' := ⟨fun pins s σ H Q I q => h.run pins s σ H Q I (i σ H Q q)⟩
theorem callR_imp {X : Cx} {f : Value} {r r' : List V → Hp → VK → Prop} (h : CallR X f r) (i : ∀ vs H Q, r' vs H Q → r vs H Q) : CallR X f r' := fun pins s σ H xs us Q I rv q => h pins s σ H xs us Q I rv (i xs H Q q)
/-- isinstance(v, c): its kind -/
def rIs (K : PySem.W.Frag) (c : Kd) : List V → Hp → VK → Prop := fun xs H Q => ∃ (v : V) (k : Kd), xs = [v, .ty c.name] ∧ Of K H v k ∧ Q (.bl (k.is c)) H
theorem call_is {X : Cx} (c : Kd) (hc : c ≠ .obj := by decide) : CallR X (.builtin "isinstance") (rIs X.K c) := callR_imp call_isi fun vs H Q ⟨v, k, e, h, q⟩ => by
  subst e
  exact isi_k c h q hc
section
variable {X : Cx} {a : Expr} {ta : TE} {x : Str} {p p2 pos : Pos}
theorem pe_is (c : Kd) (h : X.mg "isinstance" = none) (ha : PE X a ta) (hm : X.mg x = none) (hv : bootBuiltins x = some (.type c.name)) (hc : c ≠ .obj := by decide) (hg2 : Gl X x := by rfl) (hn : x ≠ "__name__" := by decide) (hd : (x == ("__debug__" : Str)) = false := by decide) (hg : Gl X "isinstance" := by rfl)
    (he : starEach [a, .Name x p2] X.env = (false, eval a X.env) :: starEach [.Name x p2] X.env := by rfl) (hpl : (backTo pos (starEach [.Name x p2] X.env)).any (·.1) = false := by rfl)
    (he2 : starEach [.Name x p2] X.env = (false, eval (.Name x p2) X.env) :: starEach [] X.env := by rfl) :
    PE X (.Call (.Name "isinstance" p) [a, .Name x p2] [] pos) (tCB (rIs X.K c) (tCons ta (tCons (tC (.ty c.name)) tNil))) :=
  pe_callB (call_is c hc) hg h boot_isinstance (pa_cons ha (pa_cons (pe_ty (pos := p2) hm hv hg2 hn hd) pa_nil he2) he) (he := he) (hpl := hpl)
end
/-! ### data -/
theorem same_t {K : PySem.W.Frag} {H H' : Hp} {a : Addr} {xs : List V} (e : Same H H') (h : SqT K H a xs) : SqT K H' a xs := by
  rcases h with (h | ⟨o, h⟩) | h
  · exact .inl (.inl (e _ _ h))
  · exact .inl (.inr ⟨o, e _ _ h⟩)
  · exact .inr h
theorem same_new {H : Hp} {p : Addr} {o : HO} (h : H p = none) : Same H (upd H p o) := fun a u e => by
  rw [upd_ne (ne_of_none e h)]
  exact e
mutual
theorem dp_same {K : PySem.W.Frag} {H H' : Hp} (e : Same H H') : ∀ {v : V} {d : PyData}, Dp K H v d → Dp K H' v d
  | _, _, .non => .non
  | _, _, .bl b => .bl b
  | _, _, .int i => .int i
  | _, _, .str x => .str x
  | _, _, .lst h r => .lst (e.seq h) (dps_same e r)
  | _, _, .tup h r => .tup (same_t e h) (dps_same e r)
theorem dps_same {K : PySem.W.Frag} {H H' : Hp} (e : Same H H') : ∀ {vs : List V} {ds : List PyData}, DpAll K H vs ds → DpAll K H' vs ds
  | _, _, .nil => .nil
  | _, _, .cons h r => .cons (dp_same e h) (dps_same e r)
end
def kdOf : PyData → Kd
  | .bool _ => .bool
  | .int _ => .int
  | .str _ => .str
  | .list _ => .list
  | .tuple _ => .tuple
  | _ => .non
theorem dp_kd {K : PySem.W.Frag} {H : Hp} {v : V} {d : PyData} (h : Dp K H v d) : Of K H v (kdOf d) := by
  cases h with
  | non => exact .non
  | bl b => exact .bl b
  | int i => exact .int i
  | str x => exact .str x
  | lst h _ => exact .list h
  | tup h _ => exact .tuple h
end M

set_option Elab.async false
set_option linter.all false
set_option maxRecDepth 100000
set_option maxHeartbeats 2000000
namespace M
open PySem PySem.Spec PyProof.Rows L2

section
variable {P : Program} {w : World} {K : PySem.W.Frag} {mg : Str → Option Value} {base : Heap}
/-! ### pastless.checks -/
def spInteger (K : PySem.W.Frag) : Sp := fun vs H Q _ => ∃ (v : V) (k : Kd), vs = [v] ∧ Of K H v k ∧ Q (.bl (decide (k = .int))) H
theorem ca_is_integer (T : Txt w K mg) : Ca P w K mg base 1 "is_integer" (spInteger K) := by
  refine ca_of (N := ["value"]) (ps := ["value"]) T.f_is_integer T.g_is_integer ⟨rfl, rfl, rfl, by decide +kernel, rfl, by decide +kernel, by decide +kernel⟩ (fun _ _ _ _ _ _ us hl => match us, hl with | [_], _ => rfl)
    (fun vs H Q E h => by obtain ⟨v, k, rfl, hk, q⟩ := h; rfl) (fun cdv A outer s H vs Q E hr h => ?_)
  have nd : (["value"] : List Str).Nodup := by decide +kernel
  obtain ⟨v, k, rfl, hk, q⟩ := h
  refine ⟨_, pss_one (ps_ret (pe_and (pe_is .int T.b_isinstance (pv 0) T.b_int boot_int) (pe_one (pe_not (pe_is .bool T.b_isinstance (pv 0) T.b_bool boot_bool))))), ?_⟩
  refine ⟨_, rfl, _, _, rfl, hk, _, rfl, ?_⟩
  cases k <;> first | exact iteF q | exact iteT ⟨_, rfl, _, _, rfl, hk, _, rfl, q⟩
def spWithin : Sp := fun vs H Q _ => ∃ (i lo hi : Int), vs = [.int i, .int lo, .int hi] ∧ Q (.bl (decide (lo ≤ i) && decide (i ≤ hi))) H
theorem ca_is_within (T : Txt w K mg) : Ca P w K mg base 2 "is_within" (spWithin) := by
  refine ca_of (N := ["value", "least", "greatest"]) (ps := ["value", "least", "greatest"]) T.f_is_within T.g_is_within ⟨rfl, rfl, rfl, by decide +kernel, rfl, by decide +kernel, by decide +kernel⟩ (fun _ _ _ _ _ _ us hl => match us, hl with | [_, _, _], _ => rfl)
    (fun vs H Q E h => by obtain ⟨i, lo, hi, rfl, q⟩ := h; rfl) (fun cdv A outer s H vs Q E hr h => ?_)
  have nd : (["value", "least", "greatest"] : List Str).Nodup := by decide +kernel
  obtain ⟨i, lo, hi, rfl, q⟩ := h
  refine ⟨_, pss_one (ps_ret (pe_and (pe_ca (ca_is_integer T) hr (pa_cons (pv 0) pa_nil)) (pe_one (pe_chain op_le op_le (pv 1) (pv 0) (pv 2))))), ?_⟩
  refine ⟨_, rfl, _, _, rfl, .int i, _, rfl, iteT ?_⟩
  refine ⟨_, rfl, _, rfl, _, _, rfl, rfl, _, rfl, ?_⟩
  by_cases c : lo ≤ i
  · rw [decide_eq_true c] at q ⊢
    exact iteT ⟨_, rfl, _, _, rfl, rfl, q⟩
  · rw [decide_eq_false c] at q ⊢
    exact iteF q
/-- within its bounds -/
theorem within_t {i lo hi : Int} (h : lo ≤ i ∧ i ≤ hi) : (decide (lo ≤ i) && decide (i ≤ hi)) = true := by simp [h.1, h.2]
def spTuple (K : PySem.W.Frag) : Sp := fun vs H Q _ => ∃ (a : Addr) (xs : List V) (n : Int), vs = [.ref a, .int n] ∧ SqT K H a xs ∧ Q (.bl (decide ((xs.length : Int) = n))) H
theorem ca_is_tuple (T : Txt w K mg) : Ca P w K mg base 1 "is_tuple" (spTuple K) := by
  refine ca_of (N := ["value", "length"]) (ps := ["value", "length"]) T.f_is_tuple T.g_is_tuple ⟨rfl, rfl, rfl, by decide +kernel, rfl, by decide +kernel, by decide +kernel⟩ (fun _ _ _ _ _ _ us hl => match us, hl with | [_, _], _ => rfl)
    (fun vs H Q E h => by obtain ⟨a, xs, n, rfl, hs, q⟩ := h; rfl) (fun cdv A outer s H vs Q E hr h => ?_)
  have nd : (["value", "length"] : List Str).Nodup := by decide +kernel
  obtain ⟨a, xs, n, rfl, hs, q⟩ := h
  refine ⟨_, pss_one (ps_ret (pe_and (pe_is .tuple T.b_isinstance (pv 0) T.b_tuple boot_tuple) (pe_one (pe_cmpR op_eq (pe_callB call_len_seq (by rfl) T.b_len PySem.boot_len (pa_cons (pv 0) pa_nil)) (pv 1) (nomark _))))), ?_⟩
  refine ⟨_, rfl, _, _, rfl, .tuple hs, _, rfl, iteT ?_⟩
  refine ⟨_, rfl, _, _, rfl, .inr hs, _, rfl, rfl, ?_⟩
  rw [show (decide (V.int (xs.length : Int) = V.int n)) = decide ((xs.length : Int) = n) from by simp]
  exact q
/-- hs is a state of cells of the sizes ss -/
def StateOk (ss hs : List Int) : Prop := ss.length = hs.length ∧ ∀ (i : Nat) (s h : Int), ss[i]? = some s → hs[i]? = some h → 0 ≤ h ∧ h < s
theorem get_map {l : List Int} {i : Nat} {x : V} (h : (l.map V.int)[i]? = some x) : ∃ z, l[i]? = some z ∧ x = .int z := by
  rw [List.getElem?_map] at h
  cases e : l[i]? with
  | none => rw [e] at h; cases h
  | some z => rw [e] at h; exact ⟨z, rfl, (Option.some.inj h).symm⟩
def spState (K : PySem.W.Frag) : Sp := fun vs H Q _ => ∃ (a b : Addr) (ss hs : List Int), vs = [.ref a, .ref b] ∧ SqT K H a (ss.map .int) ∧ SqT K H b (hs.map .int) ∧ StateOk ss hs ∧ ∀ H', Same H H' → Q (.bl true) H'
theorem ca_is_state (T : Txt w K mg) : Ca P w K mg base 3 "is_state" (spState K) := by
  refine ca_of (N := ["sizes", "value", "size", "held"]) (ps := ["sizes", "value"]) T.f_is_state T.g_is_state ⟨rfl, rfl, rfl, by decide +kernel, rfl, by decide +kernel, by decide +kernel⟩ (fun _ _ _ _ _ _ us hl => match us, hl with | [_, _], _ => rfl)
    (fun vs H Q E h => by obtain ⟨a, b, ss, hs, rfl, ha, hb, ok, q⟩ := h; rfl) (fun cdv A outer s H vs Q E hr h => ?_)
  have nd : (["sizes", "value", "size", "held"] : List Str).Nodup := by decide +kernel
  obtain ⟨a, b, ss, hs, rfl, ha, hb, ok, q⟩ := h
  refine ⟨_, pss_cons (ps_if (pt_not (pt_val (pe_ca (ca_is_tuple T) hr (pa_cons (pv 1) (pa_cons (pe_callB call_len_seq (by rfl) T.b_len PySem.boot_len (pa_cons (pv 0) pa_nil)) pa_nil))))) (pss_one (ps_ret pe_bl)) pss_nil)
    (pss_cons (ps_for PassesOwn.never rfl (RZ.pi_zipA (by rfl) T.b_zip (pa_cons (pv 0) (pa_cons (pv 1) pa_nil))) (pg_tup rfl (pgs_cons (pg_name (i := 2) nd rfl (.inl rfl)) (pgs_cons (pg_name (i := 3) nd rfl (.inl rfl)) pgs_nil)))
      (pss_one (ps_if (pt_not (pt_val (pe_ca (ca_is_within T) hr (pa_cons (pv 3) (pa_cons pe_int (pa_cons (pe_op op_sub (pv 2) pe_int) pa_nil)))))) (pss_one (ps_ret pe_bl)) pss_nil)))
    (pss_one (ps_ret pe_bl))), ?_⟩
  refine ⟨_, rfl, _, rfl, _, _, rfl, .inr ha, b, _, _, rfl, hb, _, rfl, ?_⟩
  rw [List.length_map, List.length_map, ok.1, decide_eq_true rfl]
  refine iteF ⟨_, rfl, _, rfl, a, b, _, _, rfl, .inr ⟨ha, hb, RZ.for_zipT (xs := ss.map V.int) (ys := hs.map V.int) (by simp [ok.1]) (fun i σ H' => ∃ x y, σ = [some (.ref a), some (.ref b), x, y] ∧ Same H H') ⟨none, none, rfl, Same.refl H⟩ (fun i σ H' ⟨_, _, _, s⟩ => ⟨same_t s ha, same_t s hb⟩) ?_ ?_⟩⟩
  · rintro i x y t σ H' hx hy ⟨u, v, rfl, s⟩ ht
    obtain ⟨z, hz, rfl⟩ := get_map hx
    obtain ⟨z', hz', rfl⟩ := get_map hy
    have o := ok.2 i z z' hz hz'
    refine ⟨t, _, rfl, SqT.of upd_same, rfl, _, _, rfl, _, _, rfl, rfl, ?_⟩
    refine ⟨_, rfl, _, rfl, _, _, rfl, rfl, z', 0, z - 1, rfl, _, rfl, ?_⟩
    rw [within_t ⟨o.1, by omega⟩]
    exact iteF ⟨_, _, rfl, s.trans (same_new ht)⟩
  · rintro σ H' ⟨_, _, rfl, s⟩
    exact q H' s
end

end M

set_option Elab.async false
set_option linter.all false
set_option maxRecDepth 100000
set_option maxHeartbeats 2000000
namespace M
open PySem PySem.Spec PyProof.Rows L2

/-! ### what bodies, codes and vaults are -/
inductive Exp where
  | num (n : Int) | reg (r : Str) | op (s : Str) (a b : Exp)
def Exp.d : Exp → PyData
  | .num n => .int n
  | .reg r => .str r
  | .op s a b => .tuple [.str s, a.d, b.d]
inductive Row where
  | read (r : Str) (c : Int) | set (c : Int) (e : Exp) | swap (r : Str) (c : Int) (e f : Exp) | keep (r : Str) (e : Exp) | coin (r : Str)
  | iff (e : Exp) (a b : List Row) | times (e : Exp) (a : List Row) | ans (e : Exp)
mutual
def Row.d : Row → PyData
  | .read r c => .tuple [.str "read", .str r, .int c]
  | .set c e => .tuple [.str "set", .int c, e.d]
  | .swap r c e f => .tuple [.str "swap", .str r, .int c, e.d, f.d]
  | .keep r e => .tuple [.str "keep", .str r, e.d]
  | .coin r => .tuple [.str "coin", .str r]
  | .iff e a b => .tuple [.str "if", e.d, .tuple (rowsD a), .tuple (rowsD b)]
  | .times e a => .tuple [.str "times", e.d, .tuple (rowsD a)]
  | .ans e => .tuple [.str "answer", e.d]
def rowsD : List Row → List PyData
  | [] => []
  | r :: rs => r.d :: rowsD rs
end
/-- a row of a code -/
inductive FR where
  | row (r : Row) | unless (e : Exp) (p : Nat) | on (p : Nat) | rounds (e : Exp) | round (p : Nat) | hole
def FR.d : FR → PyData
  | .row r => r.d
  | .unless e p => .tuple [.str "unless", e.d, .int p]
  | .on p => .tuple [.str "on", .int p]
  | .rounds e => .tuple [.str "rounds", e.d]
  | .round p => .tuple [.str "round", .int p]
  | .hole => .tuple []
mutual
def putRow : Row → List FR → List FR
  | .iff e a b, c =>
    let c1 := putRows a (c ++ [FR.hole])
    let c2 := putRows b ((c1 ++ [FR.hole]).set c.length (FR.unless e (c1.length + 1)))
    c2.set c1.length (FR.on c2.length)
  | .times e a, c =>
    let c1 := putRows a (c ++ [FR.rounds e, FR.hole])
    (c1 ++ [FR.on (c.length + 1)]).set (c.length + 1) (FR.round (c1.length + 1))
  | .read r k, c => c ++ [.row (.read r k)]
  | .set k e, c => c ++ [.row (.set k e)]
  | .swap r k e f, c => c ++ [.row (.swap r k e f)]
  | .keep r e, c => c ++ [.row (.keep r e)]
  | .coin r, c => c ++ [.row (.coin r)]
  | .ans e, c => c ++ [.row (.ans e)]
def putRows : List Row → List FR → List FR
  | [], c => c
  | r :: rs, c => putRows rs (putRow r c)
end
def codeOf (rows : List Row) : List FR := putRows rows [] ++ [.row (.ans (.num 0))]
structure Vlt where
  cells : List (Int × Int)
  deeds : List (Str × Int × List Row)
def cellD (c : Int × Int) : PyData := .tuple [.int c.1, .int c.2]
def deedD (d : Str × Int × List Row) : PyData := .tuple [.str d.1, .int d.2.1, .tuple (rowsD d.2.2)]
def Vlt.calls (v : Vlt) : List (Str × Int) := v.deeds.flatMap fun d => (List.range d.2.1.toNat).map fun (j : Nat) => (d.1, (j : Int))
def codeD (rows : List Row) : PyData := .tuple ((codeOf rows).map FR.d)
/-- what the attributes of a vault hold -/
def vflds (a d c : Addr) (b : Bool) : List (Str × V) := putF "_coins" (.bl b) (putF "_codes" (.ref c) (putF "_deeds" (.ref d) (putF "_cells" (.ref a) [])))
theorem v1 : ¬ (("_cells" : Str) = "_deeds") := by decide +kernel
theorem v2 : ¬ (("_cells" : Str) = "_codes") := by decide +kernel
theorem v3 : ¬ (("_cells" : Str) = "_coins") := by decide +kernel
theorem v4 : ¬ (("_deeds" : Str) = "_codes") := by decide +kernel
theorem v5 : ¬ (("_deeds" : Str) = "_coins") := by decide +kernel
theorem v6 : ¬ (("_codes" : Str) = "_coins") := by decide +kernel
theorem vf_cells (a d c : Addr) (b : Bool) : (vflds a d c b).lookup ("_cells" : Str) = some (.ref a) := by
  unfold vflds
  rw [lookup_putF, if_neg v3, lookup_putF, if_neg v2, lookup_putF, if_neg v1, lookup_putF, if_pos rfl]
theorem vf_deeds (a d c : Addr) (b : Bool) : (vflds a d c b).lookup ("_deeds" : Str) = some (.ref d) := by
  unfold vflds
  rw [lookup_putF, if_neg v5, lookup_putF, if_neg v4, lookup_putF, if_pos rfl]
theorem vf_codes (a d c : Addr) (b : Bool) : (vflds a d c b).lookup ("_codes" : Str) = some (.ref c) := by
  unfold vflds
  rw [lookup_putF, if_neg v6, lookup_putF, if_pos rfl]
theorem vf_coins (a d c : Addr) (b : Bool) : (vflds a d c b).lookup ("_coins" : Str) = some (.bl b) := by
  unfold vflds
  rw [lookup_putF, if_pos rfl]
theorem vf_no (a d c : Addr) (b : Bool) {m : Str} (h1 : ¬ m = "_cells") (h2 : ¬ m = "_deeds") (h3 : ¬ m = "_codes") (h4 : ¬ m = "_coins") : (vflds a d c b).lookup m = none := by
  unfold vflds
  rw [lookup_putF, if_neg h4, lookup_putF, if_neg h3, lookup_putF, if_neg h2, lookup_putF, if_neg h1]
  rfl
/-- the codes by the names of the deeds -/
def CodesR (K : PySem.W.Frag) (H : Hp) : List (Key × V) → List (Str × Int × List Row) → Prop
  | [], [] => True
  | (k, v) :: r, d :: ds => k = Sum.inr d.1 ∧ Dp K H v (codeD d.2.2) ∧ CodesR K H r ds
  | _, _ => False
/-- a vault stands at p -/
structure VaultAt (K : PySem.W.Frag) (H : Hp) (p : Addr) (v : Vlt) : Prop where
  ob : ∃ (dx a d c : Addr) (b : Bool) (kvs : List (Key × V)), H p = some (.ins (He.ga K "Vault") dx (vflds a d c b)) ∧ Dp K H (.ref a) (.tuple (v.cells.map cellD)) ∧ Dp K H (.ref d) (.tuple (v.deeds.map deedD)) ∧ H c = some (.dK kvs) ∧ CodesR K H kvs v.deeds
/-- the bounds of a vault -/
structure VOk (v : Vlt) : Prop where
  c1 : v.cells.length ≤ 6
  d1 : v.deeds.length ≤ 8
  ch : ∀ d ∈ v.deeds, 1 ≤ d.2.1 ∧ d.2.1 ≤ 9
  nd : (v.deeds.map (·.1)).Nodup
theorem codes_same {K : PySem.W.Frag} {H H' : Hp} (e : Same H H') : ∀ {kvs : List (Key × V)} {ds : List (Str × Int × List Row)}, CodesR K H kvs ds → CodesR K H' kvs ds
  | [], [], _ => trivial
  | (_, _) :: _, _ :: _, h => ⟨h.1, dp_same e h.2.1, codes_same e h.2.2⟩
  | [], _ :: _, h => h.elim
  | _ :: _, [], h => h.elim
theorem VaultAt.same {K : PySem.W.Frag} {H H' : Hp} {p : Addr} {v : Vlt} (e : Same H H') (h : VaultAt K H p v) : VaultAt K H' p v := by
  obtain ⟨dx, a, d, c, b, kvs, h1, h2, h3, h4, h5⟩ := h.ob
  exact ⟨dx, a, d, c, b, kvs, e _ _ h1, dp_same e h2, dp_same e h3, e _ _ h4, codes_same e h5⟩
/-! ### data taken apart -/
section
variable {K : PySem.W.Frag} {H : Hp}
theorem dp_tup {v : V} {ds : List PyData} (h : Dp K H v (.tuple ds)) : ∃ (a : Addr) (xs : List V), v = .ref a ∧ SqT K H a xs ∧ DpAll K H xs ds := by
  cases h with
  | tup h r => exact ⟨_, _, rfl, h, r⟩
theorem dp_lst {v : V} {ds : List PyData} (h : Dp K H v (.list ds)) : ∃ (a : Addr) (xs : List V), v = .ref a ∧ SqL K H a xs ∧ DpAll K H xs ds := by
  cases h with
  | lst h r => exact ⟨_, _, rfl, h, r⟩
theorem dp_int {v : V} {i : Int} (h : Dp K H v (.int i)) : v = .int i := by
  cases h
  rfl
theorem dp_str {v : V} {i : Str} (h : Dp K H v (.str i)) : v = .str i := by
  cases h
  rfl
theorem dps_len : ∀ {vs : List V} {ds : List PyData}, DpAll K H vs ds → vs.length = ds.length
  | _, _, .nil => rfl
  | _, _, .cons _ r => congrArg (· + 1) (dps_len r)
theorem dps_get : ∀ {vs : List V} {ds : List PyData} {i : Nat} {v : V}, DpAll K H vs ds → vs[i]? = some v → ∃ d, ds[i]? = some d ∧ Dp K H v d
  | _, _, i, v, .nil, h => by simp at h
  | _, _, 0, v, .cons h r, e => by
    cases (Option.some.inj e)
    exact ⟨_, rfl, h⟩
  | _, _, i + 1, v, .cons h r, e => dps_get (i := i) r e
theorem dps_at : ∀ {vs : List V} {ds : List PyData} {i : Nat} {d : PyData}, DpAll K H vs ds → ds[i]? = some d → ∃ v, vs[i]? = some v ∧ Dp K H v d
  | _, _, i, v, .nil, h => by simp at h
  | _, _, 0, v, .cons h r, e => by
    cases (Option.some.inj e)
    exact ⟨_, rfl, h⟩
  | _, _, i + 1, v, .cons h r, e => dps_at (i := i) r e
theorem dps_app : ∀ {vs ws : List V} {ds es : List PyData}, DpAll K H vs ds → DpAll K H ws es → DpAll K H (vs ++ ws) (ds ++ es)
  | _, _, _, _, .nil, r => r
  | _, _, _, _, .cons h t, r => .cons h (dps_app t r)
theorem dps_set : ∀ {vs : List V} {ds : List PyData} {i : Nat} {v : V} {d : PyData}, DpAll K H vs ds → Dp K H v d → DpAll K H (vs.set i v) (ds.set i d)
  | _, _, _, _, _, .nil, _ => .nil
  | _, _, 0, _, _, .cons _ r, z => .cons z r
  | _, _, i + 1, _, _, .cons h r, z => .cons h (dps_set (i := i) r z)
theorem dp2 {v : V} {d e : PyData} (h : Dp K H v (.tuple [d, e])) : ∃ (a : Addr) (x y : V), v = .ref a ∧ SqT K H a [x, y] ∧ Dp K H x d ∧ Dp K H y e := by
  obtain ⟨a, xs, rfl, h, r⟩ := dp_tup h
  cases r with | cons h1 r => cases r with | cons h2 r => cases r with | nil => exact ⟨a, _, _, rfl, h, h1, h2⟩
theorem dp3 {v : V} {d e f : PyData} (h : Dp K H v (.tuple [d, e, f])) : ∃ (a : Addr) (x y z : V), v = .ref a ∧ SqT K H a [x, y, z] ∧ Dp K H x d ∧ Dp K H y e ∧ Dp K H z f := by
  obtain ⟨a, xs, rfl, h, r⟩ := dp_tup h
  cases r with | cons h1 r => cases r with | cons h2 r => cases r with | cons h3 r => cases r with | nil => exact ⟨a, _, _, _, rfl, h, h1, h2, h3⟩
theorem dps_ints : ∀ {vs : List V} {is : List Int}, DpAll K H vs (is.map PyData.int) → vs = is.map V.int
  | _, [], .nil => rfl
  | _, i :: is, .cons h r => by
    rw [dp_int h, dps_ints r]
    rfl
theorem ints_dps : ∀ {is : List Int}, DpAll K H (is.map V.int) (is.map PyData.int)
  | [] => .nil
  | i :: is => .cons (.int i) ints_dps
end
/-! ### what a list that grows leaves as it was -/
/-- all but what stands at D is as it was -/
def But (D : Addr) (H H' : Hp) : Prop := ∀ b o, b ≠ D → H b = some o → H' b = some o
theorem But.upd {D : Addr} {H : Hp} {o : HO} : But D H (upd H D o) := fun b u hb e => by
  rw [upd_ne hb]
  exact e
theorem same_but {D : Addr} {H H' : Hp} (s : Same H H') : But D H H' := fun b o _ e => s b o e
theorem But.trans {D : Addr} {H H1 H2 : Hp} (s : But D H H1) (t : But D H1 H2) : But D H H2 := fun b o hb e => t b o hb (s b o hb e)
/-- no list within -/
inductive NoL : PyData → Prop where
  | non : NoL .none
  | bool (b : Bool) : NoL (.bool b)
  | int (i : Int) : NoL (.int i)
  | str (x : Str) : NoL (.str x)
  | tup {ds : List PyData} (h : ∀ d ∈ ds, NoL d) : NoL (.tuple ds)
/-- what stands at D may change -/
def Ch (H : Hp) (D : Addr) : Prop := (∀ xs, H D ≠ some (.tup xs)) ∧ ∀ o u, H D ≠ some (.frz o u)
theorem Ch.lst {H : Hp} {D : Addr} {l : List V} (h : H D = some (.lst l)) : Ch H D := ⟨fun _ e => (by rw [h] at e; cases e), fun _ _ e => (by rw [h] at e; cases e)⟩
theorem Ch.dK {H : Hp} {D : Addr} {l : List (Key × V)} (h : H D = some (.dK l)) : Ch H D := ⟨fun _ e => (by rw [h] at e; cases e), fun _ _ e => (by rw [h] at e; cases e)⟩
theorem Ch.ins {H : Hp} {D C dx : Addr} {l : List (Str × V)} (h : H D = some (.ins C dx l)) : Ch H D := ⟨fun _ e => (by rw [h] at e; cases e), fun _ _ e => (by rw [h] at e; cases e)⟩
theorem Ch.new {H : Hp} {D : Addr} (h : H D = none) : Ch H D := ⟨fun _ e => (by rw [h] at e; cases e), fun _ _ e => (by rw [h] at e; cases e)⟩
section
variable {K : PySem.W.Frag} {H H' : Hp} {D : Addr}
theorem sqT_but (hD : Ch H D) (s : But D H H') {a : Addr} {xs : List V} (h : SqT K H a xs) : SqT K H' a xs := by
  rcases h with (h | ⟨o, h⟩) | h
  · exact .inl (.inl (s _ _ (fun e => hD.1 _ (e ▸ h)) h))
  · exact .inl (.inr ⟨o, s _ _ (fun e => hD.2 _ _ (e ▸ h)) h⟩)
  · exact .inr h
mutual
theorem dp_but (hD : Ch H D) (s : But D H H') : ∀ {v : V} {d : PyData}, Dp K H v d → NoL d → Dp K H' v d
  | _, _, .non, _ => .non
  | _, _, .bl b, _ => .bl b
  | _, _, .int i, _ => .int i
  | _, _, .str x, _ => .str x
  | _, _, .lst _ _, n => nomatch n
  | _, _, .tup h r, n => .tup (sqT_but hD s h) (dps_but hD s r (by cases n with | tup h => exact h))
theorem dps_but (hD : Ch H D) (s : But D H H') : ∀ {vs : List V} {ds : List PyData}, DpAll K H vs ds → (∀ d ∈ ds, NoL d) → DpAll K H' vs ds
  | _, _, .nil, _ => .nil
  | _, _, .cons h r, n => .cons (dp_but hD s h (n _ List.mem_cons_self)) (dps_but hD s r fun d hd => n d (List.mem_cons_of_mem _ hd))
end
end
/-! ### comprehensions and loops that leave all that was as it was -/
section
variable {J : It} {n : Nat} {G : Hp → Prop} {Y : Nat → Hp → V → Hp → Prop}
/-- a list comprehension: its i-th item is R i -/
theorem lc_out (w : Walk J n G Y) {g : TG} {te : TE} {vs : List Nat} {σ : L2.St} {H1 : Hp} {D : Addr} {Qd : Hp → Prop} (hD : H1 D = none) (hn : n ≤ 100000) (R : Nat → V → Hp → Prop) (hR : ∀ i y H H', Ch H D → But D H H' → R i y H → R i y H')
    (hG : ∀ H, Same H1 H → G H)
    (hs : ∀ (i : Nat) (x : V) (H H' : Hp) (N : VK) (F : Hp → Prop), i < n → Same H1 H → Y i H x H' → (∀ y H4, Same H H4 → R i y H4 → N y H4) → g x (wipe σ vs) H' fun σ2 H2 => wipe σ2 vs = wipe σ vs ∧ if true = true then te σ2 H2 N else F H2)
    (hd : ∀ H ys, Same H1 H → H D = some (.lst ys) → ys.length = n → (∀ i y, ys[i]? = some y → R i y H) → Qd H) :
    ∃ W : Nat → Nat → Hp → Prop, (∃ m, W 0 m (upd H1 D (.lst []))) ∧ ∀ i m H, W i m H →
      (J.stop i H ∧ Qd H) ∨ (J.go i H ∧ ∃ Nx : Hp → Prop, (∀ H', Nx H' → ∃ m', m' < m ∧ W (i + 1) m' H') ∧ ∀ x H', J.yld i H x H' → g x (wipe σ vs) H' fun σ2 H2 => wipe σ2 vs = wipe σ vs ∧ tYes σ2 H2 fun b H3 =>
        if b = true then te σ2 H3 fun y H4 => ∃ acc, H4 D = some (.lst acc) ∧ acc.length < sizeLine ∧ Nx (upd H4 D (.lst (acc ++ [y]))) else Nx H3) := by
  let Pv : Nat → Hp → Prop := fun i H => ∃ ys, Same H1 H ∧ H D = some (.lst ys) ∧ ys.length = i ∧ ∀ j y, ys[j]? = some y → R j y H
  refine lc_it w Pv ⟨[], same_new hD, upd_same, rfl, fun j y e => by simp at e⟩ (fun i H _ ⟨_, s, _⟩ => hG H s) (fun i x H H' hi ⟨ys, s, eD, el, hr⟩ y => ?_) (fun H ⟨ys, s, eD, el, hr⟩ => hd H ys s eD el hr)
  refine hs i x H H' (fun y H4 => ∃ acc, H4 D = some (.lst acc) ∧ acc.length < sizeLine ∧ Pv (i + 1) (upd H4 D (.lst (acc ++ [y])))) (fun H3 => Pv (i + 1) H3) hi s y fun z H4 s4 rz => ⟨ys, s4 _ _ eD, by rw [sizeLine_eq]; omega, ys ++ [z], fun b o e => ?_, upd_same, by simp [el], fun j u e => ?_⟩
  · rw [upd_ne (ne_of_none e hD)]
    exact s4 b o (s b o e)
  · have bt : But D H (upd H4 D (.lst (ys ++ [z]))) := (same_but s4 (D := D)).trans But.upd
    by_cases hj : j < ys.length
    · rw [List.getElem?_append_left hj] at e
      exact hR j u H _ (.lst eD) bt (hr j u e)
    · rw [List.getElem?_append_right (by omega)] at e
      have e0 : j - ys.length = 0 := by
        cases q : j - ys.length with
        | zero => rfl
        | succ m => rw [q] at e; simp at e
      rw [e0] at e
      cases (Option.some.inj e)
      have ej : j = i := by omega
      subst ej
      exact hR _ _ H4 _ (.lst (s4 _ _ eD)) But.upd rz
end

end M

set_option Elab.async false
set_option linter.all false
set_option maxRecDepth 100000
set_option maxHeartbeats 2000000
namespace M
open PySem PySem.Spec PyProof.Rows L2

theorem map_of {α : Type} {cs : List α} {f : α → V} {ys : List V} (hl : ys.length = cs.length) (h : ∀ (i : Nat) (y : V), ys[i]? = some y → ∃ c, cs[i]? = some c ∧ y = f c) : ys = cs.map f := by
  refine List.ext_getElem? fun i => ?_
  rw [List.getElem?_map]
  cases e : ys[i]? with
  | some y =>
    obtain ⟨c, hc, rfl⟩ := h i y e
    rw [hc]
    rfl
  | none =>
    have q : cs[i]? = none := by
      rw [List.getElem?_eq_none_iff] at e ⊢
      omega
    rw [q]
    rfl
theorem get_mapA {α β : Type} {l : List α} {f : α → β} {i : Nat} {x : β} (h : (l.map f)[i]? = some x) : ∃ z, l[i]? = some z ∧ x = f z := by
  rw [List.getElem?_map] at h
  cases e : l[i]? with
  | none => rw [e] at h; cases h
  | some z => rw [e] at h; exact ⟨z, rfl, (Option.some.inj h).symm⟩
section
variable {P : Program} {w : World} {K : PySem.W.Frag} {mg : Str → Option Value} {base : Heap}
/-! ### pastless.vaults: what a vault tells -/
def spSizes (K : PySem.W.Frag) (f : Int × Int → Int) : Sp := fun vs H Q _ => ∃ (p : Addr) (v : Vlt), vs = [.ref p] ∧ VaultAt K H p v ∧ v.cells.length ≤ 6 ∧ ∀ a H', Same H H' → H' a = some (.tup ((v.cells.map f).map V.int)) → Q (.ref a) H'
theorem me_Vault_sizes (T : Txt w K mg) : Me P w K mg base 1 (He.ga K "Vault") "sizes" (spSizes K (·.1)) := by
  refine me_of (N := ["self", "size", "_"]) (ps := ["self"]) T.f_Vault_sizes T.c_Vault T.m_Vault_sizes ⟨rfl, rfl, rfl, by decide +kernel, rfl, by decide +kernel, by decide +kernel⟩ (fun _ _ _ _ _ _ us hl => match us, hl with | [_], _ => rfl)
    (fun vs H Q E h => by obtain ⟨p, v, rfl, hv, hl, q⟩ := h; rfl) (fun cdv A outer s H vs Q E hr h => ?_)
  have nd : (["self", "size", "_"] : List Str).Nodup := by decide +kernel
  obtain ⟨p, v, rfl, hv, hl, q⟩ := h
  obtain ⟨dx, a, d, c, b, kvs, h1, h2, h3, h4, h5⟩ := hv.ob
  obtain ⟨a, xs, ea, hx, hxs⟩ := dp_tup h2
  cases ea
  refine ⟨_, pss_one (ps_ret (pe_tupleOf (by rfl) T.b_tuple (pe_lc (own := [("size", 1), ("_", 2)]) (tt := tYes) rfl nd (pi_tup (pe_fld (pv 0) rfl)) (blkOk_by (N := ["self", "size", "_"]) (sc := defScope s_Vault_sizes) (by decide +kernel))
    (fun _ _ _ _ _ => pg_two K 1 2 rfl rfl nd rfl rfl (.inl rfl) (.inl rfl) (.inr rfl) (.inr rfl)) (fun _ _ _ _ _ => pts_nil) (fun _ _ _ _ _ => pv 1)))), ?_⟩
  have el : xs.length = v.cells.length := by rw [dps_len hxs, List.length_map]
  refine ⟨_, rfl, p, _, _, _, _, rfl, h1, T.c_Vault, T.n_Vault_cells, vf_cells .., a, rfl, ⟨_, hx⟩, fun D hD => ?_⟩
  refine lc_out (n := xs.length) walk_tup hD (by omega) (fun i y H => ∃ c, v.cells[i]? = some c ∧ y = .int c.1) (fun _ _ _ _ _ _ h => h) (fun H' s => same_t s hx) (fun i x H' H2 N F hi s y k => ?_) (fun H' ys s hD' hl' hr => ?_)
  · obtain ⟨rfl, ex⟩ := y
    obtain ⟨dd, ed, hdd⟩ := dps_get hxs ex
    obtain ⟨cc, ec, rfl⟩ := get_mapA ed
    obtain ⟨t, x1, x2, rfl, ht, e1, e2⟩ := dp2 (dp_same s hdd)
    cases dp_int e1
    refine ⟨t, _, rfl, ht, rfl, _, _, rfl, _, _, rfl, rfl, rfl, iteT ⟨_, rfl, k _ _ (Same.refl _) ⟨cc, ec, rfl⟩⟩⟩
  · have em : ys = (v.cells.map (·.1)).map V.int := by
      rw [List.map_map]
      exact map_of (by omega) fun i y e => by
        obtain ⟨c, h1, h2⟩ := hr i y e
        exact ⟨c, h1, h2⟩
    refine .inl ⟨D, ys, rfl, SqL.of hD', fun t ht => ?_⟩
    rw [em]
    exact q t _ (s.trans (same_new ht)) upd_same
theorem me_Vault_first (T : Txt w K mg) : Me P w K mg base 1 (He.ga K "Vault") "first" (spSizes K (·.2)) := by
  refine me_of (N := ["self", "_", "held"]) (ps := ["self"]) T.f_Vault_first T.c_Vault T.m_Vault_first ⟨rfl, rfl, rfl, by decide +kernel, rfl, by decide +kernel, by decide +kernel⟩ (fun _ _ _ _ _ _ us hl => match us, hl with | [_], _ => rfl)
    (fun vs H Q E h => by obtain ⟨p, v, rfl, hv, hl, q⟩ := h; rfl) (fun cdv A outer s H vs Q E hr h => ?_)
  have nd : (["self", "_", "held"] : List Str).Nodup := by decide +kernel
  obtain ⟨p, v, rfl, hv, hl, q⟩ := h
  obtain ⟨dx, a, d, c, b, kvs, h1, h2, h3, h4, h5⟩ := hv.ob
  obtain ⟨a, xs, ea, hx, hxs⟩ := dp_tup h2
  cases ea
  refine ⟨_, pss_one (ps_ret (pe_tupleOf (by rfl) T.b_tuple (pe_lc (own := [("_", 1), ("held", 2)]) (tt := tYes) rfl nd (pi_tup (pe_fld (pv 0) rfl)) (blkOk_by (N := ["self", "_", "held"]) (sc := defScope s_Vault_first) (by decide +kernel))
    (fun _ _ _ _ _ => pg_two K 1 2 rfl rfl nd rfl rfl (.inl rfl) (.inl rfl) (.inr rfl) (.inr rfl)) (fun _ _ _ _ _ => pts_nil) (fun _ _ _ _ _ => pv 2)))), ?_⟩
  have el : xs.length = v.cells.length := by rw [dps_len hxs, List.length_map]
  refine ⟨_, rfl, p, _, _, _, _, rfl, h1, T.c_Vault, T.n_Vault_cells, vf_cells .., a, rfl, ⟨_, hx⟩, fun D hD => ?_⟩
  refine lc_out (n := xs.length) walk_tup hD (by omega) (fun i y H => ∃ c, v.cells[i]? = some c ∧ y = .int c.2) (fun _ _ _ _ _ _ h => h) (fun H' s => same_t s hx) (fun i x H' H2 N F hi s y k => ?_) (fun H' ys s hD' hl' hr => ?_)
  · obtain ⟨rfl, ex⟩ := y
    obtain ⟨dd, ed, hdd⟩ := dps_get hxs ex
    obtain ⟨cc, ec, rfl⟩ := get_mapA ed
    obtain ⟨t, x1, x2, rfl, ht, e1, e2⟩ := dp2 (dp_same s hdd)
    cases dp_int e2
    refine ⟨t, _, rfl, ht, rfl, _, _, rfl, _, _, rfl, rfl, rfl, iteT ⟨_, rfl, k _ _ (Same.refl _) ⟨cc, ec, rfl⟩⟩⟩
  · have em : ys = (v.cells.map (·.2)).map V.int := by
      rw [List.map_map]
      exact map_of (by omega) fun i y e => by
        obtain ⟨c, h1, h2⟩ := hr i y e
        exact ⟨c, h1, h2⟩
    refine .inl ⟨D, ys, rfl, SqL.of hD', fun t ht => ?_⟩
    rw [em]
    exact q t _ (s.trans (same_new ht)) upd_same
end

end M

set_option Elab.async false
set_option linter.all false
set_option maxRecDepth 100000
set_option maxHeartbeats 2000000
namespace M
open PySem PySem.Spec PyProof.Rows L2

/-! ### any walk: Pv by the turn and the heap -/
section
variable {J : It} {n : Nat} {G : Hp → Prop} {Y : Nat → Hp → V → Hp → Prop}
theorem it_any (w : Walk J n G Y) {B : (Hp → Prop) → V → Hp → Prop} {H1 : Hp} {Qd : Hp → Prop} (Pv : Nat → Hp → Prop) (h0 : Pv 0 H1) (hG : ∀ i H, i ≤ n → Pv i H → G H) (hs : ∀ i x H H', i < n → Pv i H → Y i H x H' → B (Pv (i + 1)) x H')
    (hd : ∀ H, Pv n H → Qd H) : ∃ W : Nat → Nat → Hp → Prop, (∃ m, W 0 m H1) ∧ ∀ i m H, W i m H → (J.stop i H ∧ Qd H) ∨ (J.go i H ∧ ∃ Nx : Hp → Prop, (∀ H', Nx H' → ∃ m', m' < m ∧ W (i + 1) m' H') ∧ ∀ x H', J.yld i H x H' → B Nx x H') := by
  refine ⟨fun i m H => m + i = n ∧ Pv i H, ⟨n, rfl, h0⟩, fun i m H ⟨hm, hp⟩ => ?_⟩
  have hg := hG i H (by omega) hp
  rcases Nat.lt_or_ge i n with hi | hi
  · exact .inr ⟨w.goes i H hi hg, Pv (i + 1), fun H' hp' => ⟨m - 1, by omega, by omega, hp'⟩, fun x H' y => hs i x H H' hi hp (w.yields i H x H' hi hg y)⟩
  · obtain rfl : i = n := by omega
    exact .inl ⟨w.stops H hg, hd H hp⟩
end
/-- the tuples of calls -/
def TupsAt (H : Hp) : List V → List (Str × Int) → Prop
  | [], [] => True
  | y :: ys, c :: cs => (∃ t, y = .ref t ∧ H t = some (.tup [.str c.1, .int c.2])) ∧ TupsAt H ys cs
  | _, _ => False
theorem tups_but {D : Addr} {H H' : Hp} (hD : Ch H D) (s : But D H H') : ∀ {ys : List V} {cs : List (Str × Int)}, TupsAt H ys cs → TupsAt H' ys cs
  | [], [], _ => trivial
  | _ :: _, _ :: _, ⟨⟨t, e, h⟩, r⟩ => ⟨⟨t, e, s t _ (fun z => hD.1 _ (z ▸ h)) h⟩, tups_but hD s r⟩
  | [], _ :: _, h => h.elim
  | _ :: _, [], h => h.elim
theorem tups_same {H H' : Hp} (s : Same H H') : ∀ {ys : List V} {cs : List (Str × Int)}, TupsAt H ys cs → TupsAt H' ys cs
  | [], [], _ => trivial
  | _ :: _, _ :: _, ⟨⟨t, e, h⟩, r⟩ => ⟨⟨t, e, s t _ h⟩, tups_same s r⟩
  | [], _ :: _, h => h.elim
  | _ :: _, [], h => h.elim
theorem tups_len {H : Hp} : ∀ {ys : List V} {cs : List (Str × Int)}, TupsAt H ys cs → ys.length = cs.length
  | [], [], _ => rfl
  | _ :: _, _ :: _, ⟨_, r⟩ => congrArg (· + 1) (tups_len r)
  | [], _ :: _, h => h.elim
  | _ :: _, [], h => h.elim
theorem tups_snoc {H : Hp} {t : Addr} {c : Str × Int} (ht : H t = some (.tup [.str c.1, .int c.2])) : ∀ {ys : List V} {cs : List (Str × Int)}, TupsAt H ys cs → TupsAt H (ys ++ [.ref t]) (cs ++ [c])
  | [], [], _ => ⟨⟨t, rfl, ht⟩, trivial⟩
  | _ :: _, _ :: _, ⟨h, r⟩ => ⟨h, tups_snoc ht r⟩
  | [], _ :: _, h => h.elim
  | _ :: _, [], h => h.elim
theorem tups_get {H : Hp} : ∀ {ys : List V} {cs : List (Str × Int)} {i : Nat} {y : V}, TupsAt H ys cs → ys[i]? = some y → ∃ c t, cs[i]? = some c ∧ y = .ref t ∧ H t = some (.tup [.str c.1, .int c.2])
  | [], [], i, y, _, e => by simp at e
  | _ :: _, c :: _, 0, y, ⟨⟨t, e, h⟩, r⟩, z => by
    cases (Option.some.inj z)
    exact ⟨c, t, rfl, e, h⟩
  | _ :: _, _ :: _, i + 1, y, ⟨h, r⟩, z => tups_get (i := i) r z
  | [], _ :: _, _, _, h, _ => h.elim
  | _ :: _, [], _, _, h, _ => h.elim
theorem take_more {α : Type} {l : List α} {i : Nat} {x : α} (h : l[i]? = some x) : l.take (i + 1) = l.take i ++ [x] := by
  rw [List.take_add_one, h]
  rfl
theorem range_more (j : Nat) : List.range (j + 1) = List.range j ++ [j] := List.range_succ
/-- all but the dict of a name -/
theorem codes_get {K : PySem.W.Frag} {H : Hp} : ∀ {kvs : List (Key × V)} {ds : List (Str × Int × List Row)} {d : Str × Int × List Row}, CodesR K H kvs ds → (ds.map (·.1)).Nodup → d ∈ ds → ∃ v, valV kvs (Sum.inr d.1 : Key) = some v ∧ Dp K H v (codeD d.2.2)
  | [], [], d, _, _, h => by cases h
  | (k, v) :: r, e :: ds, d, h, n, hd => by
    obtain ⟨rfl, hv, hr⟩ := h
    rw [List.map_cons, List.nodup_cons] at n
    by_cases q : e.1 = d.1
    · have : d = e := by
        rcases List.mem_cons.mp hd with z | z
        · exact z
        · exact absurd (q ▸ List.mem_map.mpr ⟨d, z, rfl⟩) n.1
      subst this
      refine ⟨v, ?_, hv⟩
      unfold valV
      rw [List.find?_cons_of_pos (by simp)]
      rfl
    · have hd' : d ∈ ds := by
        rcases List.mem_cons.mp hd with z | z
        · exact absurd (by rw [z]) q
        · exact z
      obtain ⟨u, hu, hw⟩ := codes_get hr n.2 hd'
      refine ⟨u, ?_, hw⟩
      unfold valV at hu ⊢
      rw [List.find?_cons_of_neg (by simp [q])]
      exact hu
  | [], _ :: _, _, h, _, _ => h.elim
  | _ :: _, [], _, h, _, _ => h.elim
/-! ### no lists within -/
theorem Exp.noL : ∀ e : Exp, NoL e.d
  | .num n => .int n
  | .reg r => .str r
  | .op s a b => .tup fun d h => by
    rcases List.mem_cons.mp h with rfl | h
    · exact .str s
    rcases List.mem_cons.mp h with rfl | h
    · exact a.noL
    rcases List.mem_cons.mp h with rfl | h
    · exact b.noL
    cases h
mutual
theorem Row.noL : ∀ r : Row, NoL r.d
  | .read r c => .tup (by intro d h; simp at h; rcases h with rfl | rfl | rfl <;> constructor)
  | .set c e => .tup (by intro d h; simp at h; rcases h with rfl | rfl | rfl <;> first | exact e.noL | constructor)
  | .swap r c e f => .tup (by intro d h; simp at h; rcases h with rfl | rfl | rfl | rfl | rfl <;> first | exact e.noL | exact f.noL | constructor)
  | .keep r e => .tup (by intro d h; simp at h; rcases h with rfl | rfl | rfl <;> first | exact e.noL | constructor)
  | .coin r => .tup (by intro d h; simp at h; rcases h with rfl | rfl <;> constructor)
  | .iff e a b => .tup (by intro d h; simp at h; rcases h with rfl | rfl | rfl | rfl <;> first | exact e.noL | exact .tup (rows_noL a) | exact .tup (rows_noL b) | constructor)
  | .times e a => .tup (by intro d h; simp at h; rcases h with rfl | rfl | rfl <;> first | exact e.noL | exact .tup (rows_noL a) | constructor)
  | .ans e => .tup (by intro d h; simp at h; rcases h with rfl | rfl <;> first | exact e.noL | constructor)
theorem rows_noL : ∀ rs : List Row, ∀ d ∈ rowsD rs, NoL d
  | [], d, h => by cases h
  | r :: rs, d, h => by
    rcases List.mem_cons.mp h with rfl | h
    · exact r.noL
    · exact rows_noL rs d h
end
theorem FR.noL : ∀ r : FR, NoL r.d
  | .row r => r.noL
  | .unless e p => .tup (by intro d h; simp at h; rcases h with rfl | rfl | rfl <;> first | exact e.noL | constructor)
  | .on p => .tup (by intro d h; simp at h; rcases h with rfl | rfl <;> constructor)
  | .rounds e => .tup (by intro d h; simp at h; rcases h with rfl | rfl <;> first | exact e.noL | constructor)
  | .round p => .tup (by intro d h; simp at h; rcases h with rfl | rfl <;> constructor)
  | .hole => .tup (by intro d h; cases h)
theorem code_noL (rs : List Row) : NoL (codeD rs) := .tup fun d h => by
  obtain ⟨r, _, rfl⟩ := List.mem_map.mp h
  exact r.noL
section
variable {P : Program} {w : World} {K : PySem.W.Frag} {mg : Str → Option Value} {base : Heap}
def spCalls (K : PySem.W.Frag) : Sp := fun vs H Q _ => ∃ (p : Addr) (v : Vlt), vs = [.ref p] ∧ VaultAt K H p v ∧ VOk v ∧ ∀ a ys H', Same H H' → H' a = some (.lst ys) → TupsAt H' ys v.calls → Q (.ref a) H'
theorem me_Vault_calls (T : Txt w K mg) : Me P w K mg base 1 (He.ga K "Vault") "calls" (spCalls K) := by
  refine me_of (N := ["self", "name", "choices", "_", "argument"]) (ps := ["self"]) T.f_Vault_calls T.c_Vault T.m_Vault_calls ⟨rfl, rfl, rfl, by decide +kernel, rfl, by decide +kernel, by decide +kernel⟩ (fun _ _ _ _ _ _ us hl => match us, hl with | [_], _ => rfl)
    (fun vs H Q E h => by obtain ⟨p, v, rfl, hv, ok, q⟩ := h; rfl) (fun cdv A outer s H vs Q E hr h => ?_)
  have nd : (["self", "name", "choices", "_", "argument"] : List Str).Nodup := by decide +kernel
  obtain ⟨p, v, rfl, hv, ok, q⟩ := h
  obtain ⟨dx, a, d, c, b, kvs, h1, h2, h3, h4, h5⟩ := hv.ob
  obtain ⟨d, xs, ea, hx, hxs⟩ := dp_tup h3
  cases ea
  refine ⟨_, pss_one (ps_ret (pe_lc2 (own := [("name", 1), ("choices", 2), ("_", 3), ("argument", 4)]) (vs1 := [4]) (tt := tYes) (tt1 := tYes) rfl nd (pi_tup (pe_fld (pv 0) rfl)) (blkOk_by (N := ["self", "name", "choices", "_", "argument"]) (sc := defScope s_Vault_calls) (by decide +kernel)) (by decide)
    (fun _ _ _ _ _ => pg_three K 1 2 3 rfl rfl nd rfl rfl rfl (.inl rfl) (.inl rfl) (.inl rfl) (.inr rfl) (.inr rfl) (.inr rfl)) (fun _ _ _ _ _ => pts_nil) (fun _ _ _ _ _ => pi_range1 rfl T.b_range (pa_cons (pv 2) pa_nil)) (fun _ _ _ _ _ => pg_name (i := 4) nd rfl (.inl rfl)) (fun _ _ _ _ _ => pts_nil)
    (fun _ _ _ _ _ => pe_tup (pa_cons (pv 1) (pa_cons (pv 4) pa_nil))))), ?_⟩
  have el : xs.length = v.deeds.length := by rw [dps_len hxs, List.length_map]
  refine ⟨_, rfl, p, _, _, _, _, rfl, h1, T.c_Vault, T.n_Vault_deeds, vf_deeds .., d, rfl, ⟨_, hx⟩, fun D hD => ?_⟩
  let F : List (Str × Int × List Row) → List (Str × Int) := fun l => l.flatMap fun d => (List.range d.2.1.toNat).map fun (j : Nat) => (d.1, (j : Int))
  have FS : ∀ l d, F (l ++ [d]) = F l ++ (List.range d.2.1.toNat).map fun (j : Nat) => (d.1, (j : Int)) := fun l d => by simp [F]
  have bnd : ∀ l, (∀ d ∈ l, d.2.1 ≤ 9) → (F l).length ≤ 9 * l.length := by
    intro l
    induction l with
    | nil => intro _; simp [F]
    | cons d r ih =>
      intro h
      have e : F (d :: r) = ((List.range d.2.1.toNat).map fun (j : Nat) => (d.1, (j : Int))) ++ F r := by simp [F]
      have h1 := h d List.mem_cons_self
      have h2 := ih fun d hd => h d (List.mem_cons_of_mem _ hd)
      rw [e, List.length_append, List.length_map, List.length_range, List.length_cons]
      omega
  refine it_any (n := xs.length) walk_tup (fun i H' => ∃ ys, Same H H' ∧ H' D = some (.lst ys) ∧ TupsAt H' ys (F (v.deeds.take i))) ⟨[], same_new hD, upd_same, trivial⟩ (fun i H' _ ⟨_, s, _⟩ => same_t s hx) ?_ ?_
  · rintro i x H' H2 hi ⟨ys, s, eD, hy⟩ ⟨rfl, ex⟩
    obtain ⟨dd, ed, hdd⟩ := dps_get hxs ex
    obtain ⟨cc, ec, rfl⟩ := get_mapA ed
    obtain ⟨t, x1, x2, x3, rfl, ht, e1, e2, e3⟩ := dp3 (dp_same s hdd)
    cases dp_str e1
    cases dp_int e2
    have hc := ok.ch cc (List.mem_of_getElem? ec)
    refine ⟨t, _, rfl, ht, rfl, _, _, rfl, _, _, rfl, _, _, rfl, rfl, rfl, ?_⟩
    refine ⟨_, rfl, cc.2.1, rfl, by omega, by omega, ?_⟩
    refine it_any (n := cc.2.1.toNat) walk_range (fun j H' => ∃ ys, Same H H' ∧ H' D = some (.lst ys) ∧ TupsAt H' ys (F (v.deeds.take i) ++ (List.range j).map fun (j : Nat) => (cc.1, (j : Int)))) ⟨ys, s, eD, by simpa using hy⟩ (fun _ _ _ _ => trivial) ?_ ?_
    · rintro j x H3 H4 hj ⟨zs, s3, eD3, hz⟩ ⟨rfl, rfl⟩
      refine ⟨rfl, _, rfl, _, rfl, (by show 2 ≤ sizeLine; decide), fun t ht => ?_⟩
      have ntD : D ≠ t := ne_of_none eD3 ht
      have hlz := tups_len hz
      have hb := bnd (v.deeds.take i) fun d hd => (ok.ch d (List.mem_of_mem_take hd)).2
      have hl8 : (v.deeds.take i).length ≤ 8 := by rw [List.length_take]; have := ok.d1; omega
      rw [List.length_append, List.length_map, List.length_range] at hlz
      refine ⟨zs, by rw [upd_ne ntD]; exact eD3, by rw [sizeLine_eq]; omega, zs ++ [.ref t], fun b o e => ?_, upd_same, ?_⟩
      · rw [upd_ne (ne_of_none e hD), upd_ne (ne_of_none (s3 b o e) ht)]
        exact s3 b o e
      · rw [range_more, List.map_append, ← List.append_assoc]
        refine tups_snoc ?_ (tups_but (D := D) (H := upd H4 t (.tup [.str cc.1, .int (0 + (j : Int))])) (.lst (l := zs) (by rw [upd_ne ntD]; exact eD3)) But.upd (tups_same (same_new ht) hz))
        rw [upd_ne (Ne.symm ntD), upd_same]
        simp
    · rintro H3 ⟨zs, s3, eD3, hz⟩
      refine ⟨zs, s3, eD3, ?_⟩
      rw [take_more ec, FS]
      exact hz
  · rintro H' ⟨ys, s, eD, hy⟩
    refine q D ys H' s eD ?_
    rw [el, List.take_length] at hy
    exact hy
end

end M

set_option Elab.async false
set_option linter.all false
set_option maxRecDepth 100000
set_option maxHeartbeats 2000000
namespace M
open PySem PySem.Spec PyProof.Rows L2

/-! ### pastless.bodies: what a body may be -/
def regs4 : List Str := ["a", "b", "c", "d"]
def regs5 : List Str := ["a", "b", "c", "d", "x"]
def signs : List Str := ["+", "-", "*", "=", "<"]
def Exp.ok : Exp → Prop
  | .num n => 0 ≤ n ∧ n ≤ 9
  | .reg r => r ∈ regs5
  | .op s a b => s ∈ signs ∧ a.ok ∧ b.ok
def Exp.dep : Exp → Nat
  | .op _ a b => Nat.max a.dep b.dep + 1
  | _ => 0
/-- a part of a row -/
inductive Prt where
  | reg (r : Str) | cell (k : Int) | ex (e : Exp) | rows (rs : List Row)
def Prt.d : Prt → PyData
  | .reg r => .str r
  | .cell k => .int k
  | .ex e => e.d
  | .rows rs => .tuple (rowsD rs)
def Prt.kind : Prt → Str
  | .reg _ => "REG"
  | .cell _ => "CELL"
  | .ex _ => "E"
  | .rows _ => "ROWS"
def Row.word : Row → Str
  | .read .. => "read" | .set .. => "set" | .swap .. => "swap" | .keep .. => "keep" | .coin .. => "coin" | .iff .. => "if" | .times .. => "times" | .ans .. => "answer"
def Row.prts : Row → List Prt
  | .read r c => [.reg r, .cell c]
  | .set c e => [.cell c, .ex e]
  | .swap r c e f => [.reg r, .cell c, .ex e, .ex f]
  | .keep r e => [.reg r, .ex e]
  | .coin r => [.reg r]
  | .iff e a b => [.ex e, .rows a, .rows b]
  | .times e a => [.ex e, .rows a]
  | .ans e => [.ex e]
theorem row_d (r : Row) : r.d = .tuple (.str r.word :: r.prts.map Prt.d) := by cases r <;> rfl
theorem rowsD_map : ∀ rs : List Row, rowsD rs = rs.map Row.d
  | [] => rfl
  | r :: rs => congrArg (r.d :: ·) (rowsD_map rs)
mutual
/-- rows in all, rows "coin" -/
def Row.cl : Row → Nat
  | .iff _ a b => 1 + (rowsCl a + rowsCl b)
  | .times _ a => 1 + rowsCl a
  | _ => 1
def rowsCl : List Row → Nat
  | [] => 0
  | r :: rs => r.cl + rowsCl rs
end
mutual
def Row.cc : Row → Nat
  | .iff _ a b => rowsCc a + rowsCc b
  | .times _ a => rowsCc a
  | .coin _ => 1
  | _ => 0
def rowsCc : List Row → Nat
  | [] => 0
  | r :: rs => r.cc + rowsCc rs
end
def Prt.cl : Prt → Nat
  | .rows rs => rowsCl rs
  | _ => 0
def Prt.cc : Prt → Nat
  | .rows rs => rowsCc rs
  | _ => 0
def sumN : List Nat → Nat
  | [] => 0
  | n :: r => n + sumN r
def Exp.good (e : Exp) : Prop := e.ok ∧ e.dep ≤ 6
mutual
def Row.ok (c : Int) (deep loops : Nat) : Row → Prop
  | .read r k => r ∈ regs4 ∧ 0 ≤ k ∧ k < c
  | .set k e => (0 ≤ k ∧ k < c) ∧ e.good
  | .swap r k e f => r ∈ regs4 ∧ (0 ≤ k ∧ k < c) ∧ e.good ∧ f.good
  | .keep r e => r ∈ regs4 ∧ e.good
  | .coin r => r ∈ regs4 ∧ loops = 0
  | .iff e a b => e.good ∧ rowsOk c (deep + 1) loops a ∧ rowsOk c (deep + 1) loops b
  | .times e a => e.good ∧ loops < 2 ∧ rowsOk c (deep + 1) (loops + 1) a
  | .ans e => e.good
def rowsOk (c : Int) (deep loops : Nat) : List Row → Prop
  | [] => True
  | r :: rs => deep ≤ 12 ∧ r.ok c deep loops ∧ rowsOk c deep loops rs
end
def Prt.ok (c : Int) (deep loops : Nat) : Prt → Prop
  | .reg r => r ∈ regs4
  | .cell k => 0 ≤ k ∧ k < c
  | .ex e => e.good
  | .rows rs => rowsOk c (deep + 1) loops rs
/-- the loops within which the parts of a row stand -/
def Row.lp (loops : Nat) : Row → Nat
  | .times .. => loops + 1
  | _ => loops
theorem row_prts {c : Int} {deep loops : Nat} {r : Row} (h : r.ok c deep loops) : ∀ p ∈ r.prts, p.ok c deep (r.lp loops) := by
  intro p hp
  cases r with
  | read r k => simp [Row.prts] at hp; simp [Row.ok] at h; rcases hp with rfl | rfl; exact h.1; exact h.2
  | set k e => simp [Row.prts] at hp; simp only [Row.ok] at h; rcases hp with rfl | rfl; exact h.1; exact h.2
  | swap r k e f => simp [Row.prts] at hp; simp only [Row.ok] at h; rcases hp with rfl | rfl | rfl | rfl; exact h.1; exact h.2.1; exact h.2.2.1; exact h.2.2.2
  | keep r e => simp [Row.prts] at hp; simp only [Row.ok] at h; rcases hp with rfl | rfl; exact h.1; exact h.2
  | coin r => simp [Row.prts] at hp; simp only [Row.ok] at h; subst hp; exact h.1
  | iff e a b => simp [Row.prts] at hp; simp only [Row.ok] at h; rcases hp with rfl | rfl | rfl; exact h.1; exact h.2.1; exact h.2.2
  | times e a => simp [Row.prts] at hp; simp only [Row.ok] at h; rcases hp with rfl | rfl; exact h.1; exact h.2.2
  | ans e => simp [Row.prts] at hp; simp only [Row.ok] at h; subst hp; exact h
theorem row_cl (r : Row) : r.cl = 1 + sumN (r.prts.map Prt.cl) := by cases r <;> simp [Row.cl, Row.prts, sumN, Prt.cl]
def Row.co : Row → Nat
  | .coin _ => 1
  | _ => 0
theorem row_cc (r : Row) : r.cc = r.co + sumN (r.prts.map Prt.cc) := by cases r <;> simp [Row.cc, Row.co, Row.prts, sumN, Prt.cc]
theorem sumN_take {l : List Nat} {i : Nat} {x : Nat} (h : l[i]? = some x) : sumN (l.take (i + 1)) = sumN (l.take i) + x := by
  induction l generalizing i with
  | nil => simp at h
  | cons a r ih =>
    cases i with
    | zero =>
      cases (Option.some.inj h)
      simp [sumN]
    | succ i =>
      have := ih (i := i) h
      show a + sumN (r.take (i + 1)) = a + sumN (r.take i) + x
      omega
theorem sumN_le (l : List Nat) (i : Nat) : sumN (l.take i) ≤ sumN l := by
  induction l generalizing i with
  | nil => simp [sumN]
  | cons a r ih =>
    cases i with
    | zero => simp [sumN]
    | succ i =>
      have := ih i
      show a + sumN (r.take i) ≤ a + sumN r
      omega
/-! ### what the module has written -/
section
variable {P : Program} {w : World} {K : PySem.W.Frag} {mg : Str → Option Value} {base : Heap}
theorem sq_HELD (T : Txt w K mg) (H : Hp) : SqT K H (He.ga K "HELD") (regs5.map V.str) := He.tupB_ok T.e_HELD H
theorem sq_SIGNS (T : Txt w K mg) (H : Hp) : SqT K H (He.ga K "SIGNS") (signs.map V.str) := He.tupB_ok T.e_SIGNS H
theorem sq_CHANGED (T : Txt w K mg) (H : Hp) : SqT K H (He.ga K "CHANGED") (regs4.map V.str) := He.tupB_ok T.e_CHANGED H
theorem in_regs5 : ∀ r ∈ regs5, inV (.str r) (regs5.map V.str) = true := by
  intro r h
  rw [show regs5 = (["a", "b", "c", "d", "x"] : List Str) from rfl] at h
  simp only [List.mem_cons, List.not_mem_nil, or_false] at h
  rcases h with rfl | rfl | rfl | rfl | rfl <;> decide +kernel
theorem in_regs4 : ∀ r ∈ regs4, inV (.str r) (regs4.map V.str) = true := by
  intro r h
  rw [show regs4 = (["a", "b", "c", "d"] : List Str) from rfl] at h
  simp only [List.mem_cons, List.not_mem_nil, or_false] at h
  rcases h with rfl | rfl | rfl | rfl <;> decide +kernel
theorem in_signs : ∀ r ∈ signs, inV (.str r) (signs.map V.str) = true := by
  intro r h
  rw [show signs = (["+", "-", "*", "=", "<"] : List Str) from rfl] at h
  simp only [List.mem_cons, List.not_mem_nil, or_false] at h
  rcases h with rfl | rfl | rfl | rfl | rfl <;> decide +kernel
/-- a def that promises nothing -/
theorem ca_false {x : Str} {st : Stmt} {ps : List Str} {k : Nat} (F : ∃ fd, FunD K x x (defArgs st) (defBody st) (defScope st) [] [] (He.fAd K (x, none)) fd) (g : mg x = some (.ref (He.ga K x))) (hb : BindsH x x st ps) : Ca P w K mg base k x (fun _ _ _ _ => False) := by
  obtain ⟨fd, F⟩ := F
  exact ⟨_, fd, ps, ⟨fun _ _ _ _ h => h.elim, fun _ _ _ _ _ _ _ _ _ _ _ _ _ h => h.elim⟩, g, F.kp, F.bindsN hb⟩
/-- is_expression, n tuples deep at most but one -/
def spE (K : PySem.W.Frag) : Nat → Sp
  | 0 => fun _ _ _ _ => False
  | n + 1 => fun vs H Q _ => ∃ (v : V) (e : Exp) (deep : Nat), vs = [v, .int deep] ∧ Dp K H v e.d ∧ e.ok ∧ e.dep ≤ n ∧ deep + e.dep ≤ 6 ∧ Q (.bl true) H
theorem ca_is_expression (T : Txt w K mg) : ∀ n : Nat, Ca P w K mg base (n + 2) "is_expression" (spE K n)
  | 0 => ca_false (ps := ["value", "deep"]) T.f_is_expression T.g_is_expression (fun _ _ _ _ _ _ us hl => match us, hl with | [_, _], _ => rfl)
  | n + 1 => by
    have ih := ca_is_expression T n
    refine ca_of (N := ["value", "deep", "sign", "one", "other"]) (ps := ["value", "deep"]) T.f_is_expression T.g_is_expression ⟨rfl, rfl, rfl, by decide +kernel, rfl, by decide +kernel, by decide +kernel⟩ (fun _ _ _ _ _ _ us hl => match us, hl with | [_, _], _ => rfl)
      (fun vs H Q E h => by obtain ⟨v, e, deep, rfl, hv, ok, hd, h6, q⟩ := h; rfl) (fun cdv A outer s H vs Q E hr h => ?_)
    have nd : (["value", "deep", "sign", "one", "other"] : List Str).Nodup := by decide +kernel
    obtain ⟨v, e, deep, rfl, hv, ok, hd, h6, q⟩ := h
    refine ⟨_, pss_cons (ps_if (pt_val (pe_ca (ca_is_integer T) hr (pa_cons (pv 0) pa_nil) (by omega))) (pss_one (ps_ret (pe_chain op_le op_le pe_int (pv 0) pe_int))) pss_nil)
      (pss_cons (ps_if (pt_val (pe_is .str T.b_isinstance (pv 0) T.b_str boot_str)) (pss_one (ps_ret (pe_cmpR op_in_seq (pv 0) (pe_gr T.g_HELD) (by rfl)))) pss_nil)
      (pss_cons (ps_if (PW.pt (pw_or (pt_not (pt_val (pe_ca (ca_is_tuple T) hr (pa_cons (pv 0) (pa_cons pe_int pa_nil)) (by omega)))) (pw_or1 (pt_cmpR op_eq (pv 1) (pe_gi T.i_DEEPEST_EXPRESSION) (nomark _))))) (pss_one (ps_ret pe_bl)) pss_nil)
      (pss_cons (ps_asg (pv 0) (pg_three K 2 3 4 rfl rfl nd rfl rfl rfl (.inl rfl) (.inl rfl) (.inl rfl) (.inr rfl) (.inr rfl) (.inr rfl)))
      (pss_one (ps_ret (pe_and (pe_cmpR op_in_seq (pv 2) (pe_gr T.g_SIGNS) (by rfl)) (pe_and (pe_ca ih hr (pa_cons (pv 3) (pa_cons (pe_op op_add (pv 1) pe_int) pa_nil)) (by omega)) (pe_one (pe_ca ih hr (pa_cons (pv 4) (pa_cons (pe_op op_add (pv 1) pe_int) pa_nil)) (by omega)))))))))), ?_⟩
    cases e with
    | num m =>
      cases dp_int hv
      refine ⟨_, rfl, _, _, rfl, .int m, _, rfl, iteT ?_⟩
      refine ⟨_, rfl, _, _, rfl, rfl, _, rfl, ?_⟩
      rw [decide_eq_true ok.1]
      refine iteT ⟨_, _, rfl, rfl, ?_⟩
      show Q (.bl (decide (m ≤ 9))) H
      rw [decide_eq_true ok.2]
      exact q
    | reg r =>
      cases dp_str hv
      refine ⟨_, rfl, _, _, rfl, .str r, _, rfl, iteF ?_⟩
      refine ⟨_, rfl, _, _, rfl, .str r, _, rfl, iteT ?_⟩
      refine ⟨_, rfl, _, _, rfl, .inr (sq_HELD T H), rfl, by decide +kernel, ?_⟩
      show Q (.bl (inV (.str r) (regs5.map V.str))) H
      rw [in_regs5 r ok]
      exact q
    | op s a b =>
      obtain ⟨p, x, y, z, rfl, hp, hx, hy, hz⟩ := dp3 hv
      cases dp_str hx
      have hn : 1 ≤ n := by have : Nat.max a.dep b.dep + 1 ≤ n := hd; omega
      obtain ⟨m, rfl⟩ : ∃ m, n = m + 1 := ⟨n - 1, by omega⟩
      have hd' : Nat.max a.dep b.dep + 1 ≤ m + 1 := hd
      have h6' : deep + (Nat.max a.dep b.dep + 1) ≤ 6 := h6
      have ha : a.dep ≤ Nat.max a.dep b.dep := Nat.le_max_left ..
      have hb : b.dep ≤ Nat.max a.dep b.dep := Nat.le_max_right ..
      refine ⟨_, rfl, _, _, rfl, .tuple hp, _, rfl, iteF ?_⟩
      refine ⟨_, rfl, _, _, rfl, .tuple hp, _, rfl, iteF ?_⟩
      refine ⟨_, rfl, p, _, _, rfl, hp, _, rfl, iteF ?_⟩
      refine ⟨_, rfl, rfl, _, rfl, ?_⟩
      rw [decide_eq_false (show ¬ V.int (deep : Int) = V.int 6 from fun e => by have := V.int.inj e; omega)]
      refine iteF ?_
      refine ⟨_, rfl, p, _, rfl, hp, rfl, _, _, rfl, _, _, rfl, _, _, rfl, rfl, ?_⟩
      refine ⟨_, rfl, _, _, rfl, .inr (sq_SIGNS T H), rfl, by decide +kernel, _, rfl, ?_⟩
      rw [show inV (.str s) (signs.map V.str) = true from in_signs s ok.1]
      refine iteT ?_
      refine ⟨_, rfl, _, rfl, _, _, rfl, rfl, y, a, deep + 1, by simp, hy, ok.2.1, by omega, by omega, _, rfl, iteT ?_⟩
      exact ⟨_, rfl, _, rfl, _, _, rfl, rfl, z, b, deep + 1, by simp, hz, ok.2.2, by omega, by omega, q⟩
end

end M

set_option Elab.async false
set_option linter.all false
set_option maxRecDepth 100000
set_option maxHeartbeats 2000000
namespace M
open PySem PySem.Spec PyProof.Rows L2

theorem at0 {a : V} {xs : List V} : atI (a :: xs) 0 = some a := atI_nat (xs := a :: xs) (j := 0) rfl
theorem at1 {a b : V} {xs : List V} : atI (a :: b :: xs) 1 = some b := atI_nat (xs := a :: b :: xs) (j := 1) rfl
theorem at2 {a b c : V} {xs : List V} : atI (a :: b :: c :: xs) 2 = some c := atI_nat (xs := a :: b :: c :: xs) (j := 2) rfl
theorem at3 {a b c d : V} {xs : List V} : atI (a :: b :: c :: d :: xs) 3 = some d := atI_nat (xs := a :: b :: c :: d :: xs) (j := 3) rfl
theorem at4 {a b c d e : V} {xs : List V} : atI (a :: b :: c :: d :: e :: xs) 4 = some e := atI_nat (xs := a :: b :: c :: d :: e :: xs) (j := 4) rfl
/-! ### d.get(x) of a written dict -/
section
variable {X : Cx} {d : Addr} {es : Array DictEntry} {n : Nat} {o e : Expr} {apos cpos : Pos} {to te : TE}
/-- what d.get(x) gives: what is written at x -/
def tKGet (K : PySem.W.Frag) (d : Addr) (to te : TE) : TE := fun σ H Q => to σ H fun x H1 => x = .ref d ∧ te σ H1 fun y H2 => ∃ (z : Str) (u0 : Value) (v0 : V), y = .str z ∧ PySem.W.nsIn K d z = some (some u0) ∧ RelV v0 u0 ∧ Q v0 H2
theorem pe_kget (D : KDict X.K X.w d es n) (ho : PE X o to) (he : PE X e te) (m : M1 X o "get" apos e cpos) : PE X (.Call (.Attribute o "get" apos) [e] [] cpos) (tKGet X.K d to te) := by
  refine ⟨fun pins s σ H Q I h => ?_⟩
  refine wpAny_Call_method m.base m.few m.line PySem.F.plainAttrs_dict PySem.F.slot_dict_get PySem.F.type_dict_get (thn (ho.run pins s σ H _ I h) fun u s1 hu => ?_)
  obtain ⟨x, H1, I1, rx, ex, q1⟩ := hu
  subst ex
  cases rx
  have M1 : s1.heap.MapOf (strKind X.prog X.w) d _ := PySem.W.mapOf_K (prog := X.prog) I1.kIn D.at_ D.lit
  refine ⟨M1.typeIs, M1.noDict, ?_⟩
  rw [m.trees]
  refine Calls.callWith_builtin rfl (Calls.evalArgs_plain (Calls.spliced_cons (thn (he.run pins s1 σ H1 _ I1 q1) fun iv s2 hv => Calls.spliced_nil ?_)))
  obtain ⟨y, H2, I2, ry, z, u0, v0, ey, hz, r0, q2⟩ := hv
  subst ey
  obtain ⟨t, et⟩ := ry
  subst et
  have M2 : s2.heap.MapOf (strKind X.prog X.w) d _ := PySem.W.mapOf_K (prog := X.prog) I2.kIn D.at_ D.lit
  refine call_meetsIn PySem.F.slot_dict_get M2.typeIs PySem.F.entry_dict_get (PySem.F.args_dict_get_2 _ _) (meets_dict_get (strKind X.prog X.w) d (PySem.strKind_is X.prog X.w z t) D.low) ⟨_, M2, ?_⟩
  rw [PySem.W.find_K D.at_ hz]
  exact ⟨v0, H2, I2.tok _, r0, q2⟩
end
/-! ### the tally of a body -/
def tfl (c co li : Int) : List (Str × V) := putF "lines" (.int li) (putF "coins" (.int co) (putF "cells" (.int c) []))
theorem t1 : ¬ (("cells" : Str) = "coins") := by decide +kernel
theorem t2 : ¬ (("cells" : Str) = "lines") := by decide +kernel
theorem t3 : ¬ (("coins" : Str) = "lines") := by decide +kernel
theorem tfl_eq (c co li : Int) : tfl c co li = ([("cells", V.int c), ("coins", V.int co), ("lines", V.int li)] : List (Str × V)) := by
  unfold tfl
  simp only [putF, if_neg t1, if_neg t2, if_neg t3]
theorem tf_cells (c co li : Int) : (tfl c co li).lookup ("cells" : Str) = some (.int c) := by
  unfold tfl
  rw [lookup_putF, if_neg t2, lookup_putF, if_neg t1, lookup_putF, if_pos rfl]
theorem tf_coins (c co li : Int) : (tfl c co li).lookup ("coins" : Str) = some (.int co) := by
  unfold tfl
  rw [lookup_putF, if_neg t3, lookup_putF, if_pos rfl]
theorem tf_lines (c co li : Int) : (tfl c co li).lookup ("lines" : Str) = some (.int li) := by
  unfold tfl
  rw [lookup_putF, if_pos rfl]
theorem tf_putL (c co li y : Int) : putF "lines" (.int y) (tfl c co li) = tfl c co y := by
  rw [tfl_eq, tfl_eq]
  simp only [putF]
  rw [if_neg t2, if_neg t3, if_pos trivial]
theorem tf_putC (c co li y : Int) : putF "coins" (.int y) (tfl c co li) = tfl c y li := by
  rw [tfl_eq, tfl_eq]
  simp only [putF]
  rw [if_neg t1, if_pos trivial]
def TallyAt (K : PySem.W.Frag) (H : Hp) (t : Addr) (c co li : Int) : Prop := ∃ dx, H t = some (.ins (He.ga K "Tally") dx (tfl c co li))
theorem forms_of {K : PySem.W.Frag} {a : Addr} {kvs : List (Str × List Str)} (h : formsB K a kvs = true) {q : Str × List Str} (hq : q ∈ kvs) (H : Hp) : ∃ t, PySem.W.nsIn K a q.1 = some (some (.ref t)) ∧ SqT K H t (q.2.map V.str) := by
  have z := List.all_eq_true.mp h q hq
  split at z
  · rename_i t e
    split at z
    · rename_i c its n sl e2
      obtain ⟨h1, z⟩ := He.ba z
      obtain ⟨h2, h3⟩ := He.ba z
      have h1 := of_decide_eq_true h1
      subst h1
      refine ⟨t, e, .inr ⟨_, its, n, e2, rfl, rfl, of_decide_eq_true h2, He.relAll_ok h3⟩⟩
    · cases z
  · cases z
/-- the forms as the module has written them -/
def forms : List (Str × List Str) := [("read", ["REG", "CELL"]), ("set", ["CELL", "E"]), ("swap", ["REG", "CELL", "E", "E"]), ("keep", ["REG", "E"]), ("coin", ["REG"]), ("if", ["E", "ROWS", "ROWS"]), ("times", ["E", "ROWS"]), ("answer", ["E"])]
theorem row_form (r : Row) : (r.word, r.prts.map Prt.kind) ∈ forms := by
  unfold forms
  cases r <;> simp [Row.word, Row.prts, Prt.kind]
section
variable {P : Program} {w : World} {K : PySem.W.Frag} {mg : Str → Option Value} {base : Heap}
theorem form_at (T : Txt w K mg) (r : Row) (H : Hp) : ∃ t, PySem.W.nsIn K (He.ga K "FORMS") r.word = some (some (.ref t)) ∧ SqT K H t ((r.prts.map Prt.kind).map V.str) := forms_of (kvs := forms) T.e_FORMS (row_form r) H
def spTally (K : PySem.W.Frag) : Sp := fun vs H Q _ => ∃ (p dx : Addr) (c : Int), vs = [.ref p, .int c] ∧ H p = some (.ins (He.ga K "Tally") dx []) ∧ Q .non (upd H p (.ins (He.ga K "Tally") dx (tfl c 0 0)))
theorem ma_Tally (T : Txt w K mg) : Ma P w K mg base 1 "Tally" (He.ga K "Tally") (spTally K) := by
  refine ma_of (N := ["self", "cells"]) (ps := ["self", "cells"]) T.f_Tally_init T.g_Tally T.k_Tally ⟨rfl, rfl, rfl, by decide +kernel, rfl, by decide +kernel, by decide +kernel⟩ (fun _ _ _ _ _ _ us hl => match us, hl with | [_, _], _ => rfl)
    (fun vs H Q E h => by obtain ⟨p, dx, c, rfl, hp, q⟩ := h; rfl) (fun cdv A outer s H vs Q E hr h => ?_)
  have nd : (["self", "cells"] : List Str).Nodup := by decide +kernel
  obtain ⟨p, dx, c, rfl, hp, q⟩ := h
  refine ⟨_, pss_cons (ps_fld (pv 0) (pv 1) rfl) (pss_cons (ps_fld (pv 0) pe_int rfl) (pss_one (ps_fld (pv 0) pe_int rfl))), ?_⟩
  refine ⟨_, rfl, _, rfl, p, _, dx, _, rfl, hp, T.c_Tally, T.n_Tally_cells, (by show 0 < 1000; decide), ?_⟩
  refine ⟨_, rfl, p, _, dx, _, rfl, upd_same, T.c_Tally, T.n_Tally_coins, (by show 1 < 1000; decide), ?_⟩
  refine ⟨_, rfl, p, _, dx, _, rfl, upd_same, T.c_Tally, T.n_Tally_lines, (by show 2 < 1000; decide), ?_⟩
  rw [upd_upd, upd_upd]
  exact q
/-! ### the rows of a body, n ifs and times deep at most but one -/
def spRows (K : PySem.W.Frag) : Nat → Sp
  | 0 => fun _ _ _ _ => False
  | n + 1 => fun vs H Q _ => ∃ (v : V) (rs : List Row) (deep loops : Nat) (t : Addr) (c : Int) (co li : Nat), vs = [v, .int deep, .int loops, .ref t] ∧ Dp K H v (.tuple (rowsD rs)) ∧ TallyAt K H t c co li ∧ rowsOk c deep loops rs ∧ 14 ≤ deep + (n + 1) ∧ co + rowsCc rs ≤ 4 ∧ li + rowsCl rs ≤ 2000 ∧
    ∀ H', But t H H' → TallyAt K H' t c ((co + rowsCc rs : Nat) : Int) ((li + rowsCl rs : Nat) : Int) → Q (.bl true) H'
def spPart (K : PySem.W.Frag) (n : Nat) : Sp := fun vs H Q _ => ∃ (v : V) (p : Prt) (deep loops : Nat) (t : Addr) (c : Int) (co li : Nat), vs = [.str p.kind, v, .int deep, .int loops, .ref t] ∧ Dp K H v p.d ∧ TallyAt K H t c co li ∧ p.ok c deep loops ∧ (14 ≤ deep + (n + 1) ∧ deep ≤ 12) ∧ co + p.cc ≤ 4 ∧ li + p.cl ≤ 2000 ∧
    ∀ H', But t H H' → TallyAt K H' t c ((co + p.cc : Nat) : Int) ((li + p.cl : Nat) : Int) → Q (.bl true) H'
theorem ca_is_part {n : Nat} (R : Ca P w K mg base (3 * n + 10) "are_body_rows" (spRows K n)) (T : Txt w K mg) : Ca P w K mg base (3 * n + 11) "is_part" (spPart K n) := by
    refine ca_of (N := ["kind", "value", "deep", "loops", "tally"]) (ps := ["kind", "value", "deep", "loops", "tally"]) T.f_is_part T.g_is_part ⟨rfl, rfl, rfl, by decide +kernel, rfl, by decide +kernel, by decide +kernel⟩ (fun _ _ _ _ _ _ us hl => match us, hl with | [_, _, _, _, _], _ => rfl)
      (fun vs H Q E h => by obtain ⟨v, p, deep, loops, t, c, co, li, rfl, hv, ht, ok, hd, hc, hl, q⟩ := h; rfl) (fun cdv A outer s H vs Q E hr h => ?_)
    have nd : (["kind", "value", "deep", "loops", "tally"] : List Str).Nodup := by decide +kernel
    obtain ⟨v, p, deep, loops, t, c, co, li, rfl, hv, ht, ok, hd, hc, hl, q⟩ := h
    refine ⟨_, pss_cons (ps_if (pt_cmpR op_eq (pv 0) pe_str (nomark _)) (pss_one (ps_ret (pe_cmpR op_in_seq (pv 1) (pe_gr T.g_CHANGED) (by rfl)))) pss_nil)
      (pss_cons (ps_if (pt_cmpR op_eq (pv 0) pe_str (nomark _)) (pss_one (ps_ret (pe_ca (ca_is_within T) hr (pa_cons (pv 1) (pa_cons pe_int (pa_cons (pe_op op_sub (pe_fld (pv 4) rfl) pe_int) pa_nil))) (by omega)))) pss_nil)
      (pss_cons (ps_if (pt_cmpR op_eq (pv 0) pe_str (nomark _)) (pss_one (ps_ret (pe_ca (ca_is_expression T 7) hr (pa_cons (pv 1) (pa_cons pe_int pa_nil)) (by omega)))) pss_nil)
      (pss_one (ps_ret (pe_ca R hr (pa_cons (pv 1) (pa_cons (pe_op op_add (pv 2) pe_int) (pa_cons (pv 3) (pa_cons (pv 4) pa_nil)))) (by omega)))))), ?_⟩
    obtain ⟨dx, ht'⟩ := id ht
    cases p with
    | reg r =>
      cases dp_str hv
      refine ⟨_, rfl, rfl, _, rfl, iteT ?_⟩
      refine ⟨_, rfl, _, _, rfl, .inr (sq_CHANGED T H), rfl, by decide +kernel, ?_⟩
      show Q (.bl (inV (.str r) (regs4.map V.str))) H
      rw [in_regs4 r ok]
      exact q H (fun b o _ e => e) ht
    | cell k =>
      cases dp_int hv
      refine ⟨_, rfl, rfl, _, rfl, iteF ?_⟩
      refine ⟨_, rfl, rfl, _, rfl, iteT ?_⟩
      refine ⟨_, rfl, _, rfl, t, _, dx, _, _, rfl, ht', T.c_Tally, T.n_Tally_cells, tf_cells .., _, _, rfl, rfl, k, 0, c - 1, rfl, ?_⟩
      rw [within_t ⟨ok.1, by have := ok.2; omega⟩]
      exact q H (fun b o _ e => e) ht
    | ex e =>
      refine ⟨_, rfl, rfl, _, rfl, iteF ?_⟩
      refine ⟨_, rfl, rfl, _, rfl, iteF ?_⟩
      refine ⟨_, rfl, rfl, _, rfl, iteT ?_⟩
      exact ⟨_, rfl, v, e, 0, rfl, hv, ok.1, ok.2, by have := ok.2; omega, q H (fun b o _ e => e) ht⟩
    | rows rs =>
      refine ⟨_, rfl, rfl, _, rfl, iteF ?_⟩
      refine ⟨_, rfl, rfl, _, rfl, iteF ?_⟩
      refine ⟨_, rfl, rfl, _, rfl, iteF ?_⟩
      obtain ⟨m, rfl⟩ : ∃ m, n = m + 1 := ⟨n - 1, by omega⟩
      exact ⟨_, rfl, _, rfl, _, _, rfl, rfl, _, rfl, _, rfl, v, rs, deep + 1, loops, t, c, co, li, by simp, hv, ht, ok, by omega, hc, hl, q⟩
end

end M

set_option Elab.async false
set_option linter.all false
set_option maxRecDepth 100000
set_option maxHeartbeats 2000000
namespace M
open PySem PySem.Spec PyProof.Rows L2

theorem cut1 (x : V) (xs : List V) : cutV (x :: xs) (some 1) none = xs := by
  unfold cutV
  rw [show (some (1 : Int)) = some ((1 : Nat) : Int) from rfl, HT.sIx_nat, HT.sIx_none, show min 1 (x :: xs).length = 1 from by simp]
  simp
theorem cut1_not (x : V) (xs : List V) : ¬ (HT.sIx (x :: xs).length 0 (some 1) = 0 ∧ HT.sIx (x :: xs).length (x :: xs).length none = (x :: xs).length) := by
  rw [show (some (1 : Int)) = some ((1 : Nat) : Int) from rfl, HT.sIx_nat, show min 1 (x :: xs).length = 1 from by simp]
  intro h
  exact absurd h.1 (by decide)
theorem word_coin {r : Row} (h : r.word = "coin") : ∃ x, r = .coin x := by
  cases r with
  | read r c => exact absurd (show ("read" : Str) = "coin" from h) (by decide +kernel)
  | set c e => exact absurd (show ("set" : Str) = "coin" from h) (by decide +kernel)
  | swap r c e f => exact absurd (show ("swap" : Str) = "coin" from h) (by decide +kernel)
  | keep r e => exact absurd (show ("keep" : Str) = "coin" from h) (by decide +kernel)
  | coin r => exact ⟨r, rfl⟩
  | iff e a b => exact absurd (show ("if" : Str) = "coin" from h) (by decide +kernel)
  | times e a => exact absurd (show ("times" : Str) = "coin" from h) (by decide +kernel)
  | ans e => exact absurd (show ("answer" : Str) = "coin" from h) (by decide +kernel)
theorem word_times {r : Row} (h : r.word = "times") : ∃ e a, r = .times e a := by
  cases r with
  | read r c => exact absurd (show ("read" : Str) = "times" from h) (by decide +kernel)
  | set c e => exact absurd (show ("set" : Str) = "times" from h) (by decide +kernel)
  | swap r c e f => exact absurd (show ("swap" : Str) = "times" from h) (by decide +kernel)
  | keep r e => exact absurd (show ("keep" : Str) = "times" from h) (by decide +kernel)
  | coin r => exact absurd (show ("coin" : Str) = "times" from h) (by decide +kernel)
  | iff e a b => exact absurd (show ("if" : Str) = "times" from h) (by decide +kernel)
  | times e a => exact ⟨e, a, rfl⟩
  | ans e => exact absurd (show ("answer" : Str) = "times" from h) (by decide +kernel)
theorem lp_eq {loops : Nat} {r : Row} (h : r.word ≠ "times") : r.lp loops = loops := by
  cases r <;> first | rfl | exact absurd rfl h
theorem co_eq {r : Row} (h : r.word ≠ "coin") : r.co = 0 := by
  cases r <;> first | rfl | exact absurd rfl h
section
variable {P : Program} {w : World} {K : PySem.W.Frag} {mg : Str → Option Value} {base : Heap}
def spRow (K : PySem.W.Frag) (n : Nat) : Sp := fun vs H Q _ => ∃ (v : V) (r : Row) (deep loops : Nat) (t : Addr) (c : Int) (co li : Nat), vs = [v, .int deep, .int loops, .ref t] ∧ Dp K H v r.d ∧ TallyAt K H t c co li ∧ r.ok c deep loops ∧ (14 ≤ deep + (n + 1) ∧ deep ≤ 12) ∧ co + r.cc ≤ 4 ∧ li + sumN (r.prts.map Prt.cl) ≤ 2000 ∧
    ∀ H', But t H H' → TallyAt K H' t c ((co + r.cc : Nat) : Int) ((li + sumN (r.prts.map Prt.cl) : Nat) : Int) → Q (.bl true) H'
theorem ca_is_body_row {n : Nat} (R : Ca P w K mg base (3 * n + 11) "is_part" (spPart K n)) (T : Txt w K mg) : Ca P w K mg base (3 * n + 12) "is_body_row" (spRow K n) := by
    refine ca_of (N := ["row", "deep", "loops", "tally", "form", "kind", "part"]) (ps := ["row", "deep", "loops", "tally"]) T.f_is_body_row T.g_is_body_row ⟨rfl, rfl, rfl, by decide +kernel, rfl, by decide +kernel, by decide +kernel⟩ (fun _ _ _ _ _ _ us hl => match us, hl with | [_, _, _, _], _ => rfl)
      (fun vs H Q E h => by obtain ⟨v, r, deep, loops, t, c, co, li, rfl, hv, ht, ok, hd, hc, hl, q⟩ := h; rfl) (fun cdv A outer s H vs Q E hr h => ?_)
    have nd : (["row", "deep", "loops", "tally", "form", "kind", "part"] : List Str).Nodup := by decide +kernel
    obtain ⟨v, r, deep, loops, t, c, co, li, rfl, hv, ht, ok, hd, hc, hl, q⟩ := h
    obtain ⟨es, nn, D⟩ := T.t_FORMS
    rw [row_d] at hv
    obtain ⟨a, xs, rfl, ha, hxs⟩ := dp_tup hv
    obtain ⟨y, ys, rfl, hy, hys⟩ : ∃ y ys, xs = y :: ys ∧ Dp K H y (.str r.word) ∧ DpAll K H ys (r.prts.map Prt.d) := by
      cases hxs with | cons h1 h2 => exact ⟨_, _, rfl, h1, h2⟩
    cases dp_str hy
    obtain ⟨f, hf, hfs⟩ := form_at T r H
    refine ⟨_, pss_cons (ps_if (PW.pt (pw_or (pt_not (pt_val (pe_is .tuple T.b_isinstance (pv 0) T.b_tuple boot_tuple))) (pw_or (pt_cmpR op_eq (pe_callB call_len_seq (by rfl) T.b_len PySem.boot_len (pa_cons (pv 0) pa_nil)) pe_int (nomark _)) (pw_or1 (pt_not (pt_val (pe_is .str T.b_isinstance (pe_ix ix_tup (pv 0) pe_int (fun _ _ => rfl)) T.b_str boot_str))))))) (pss_one (ps_ret pe_bl)) pss_nil)
      (pss_cons (ps_set (i := 4) nd rfl (.inl rfl) (pe_kget D (pe_gr T.g_FORMS) (pe_ix ix_tup (pv 0) pe_int (fun _ _ => rfl)) ⟨rfl, rfl, rfl, rfl⟩))
      (pss_cons (ps_if (PW.pt (pw_or (pt_cmp (pc_isN (pv 4))) (pw_or1 (pt_cmpR op_ne (pe_callB call_len_seq (by rfl) T.b_len PySem.boot_len (pa_cons (pv 0) pa_nil)) (pe_op op_add pe_int (pe_callB call_len_seq (by rfl) T.b_len PySem.boot_len (pa_cons (pv 4) pa_nil))) (nomark _))))) (pss_one (ps_ret pe_bl)) pss_nil)
      (C8.pss_cut (ps_if (pt_cmpR op_eq (pe_ix ix_tup (pv 0) pe_int (fun _ _ => rfl)) pe_str (nomark _)) (pss_cons (ps_fldaug (pv 3) pe_int in_add) (pss_one (ps_if (PW.pt (pw_or (pt_cmpR op_gt (pv 2) pe_int (nomark _)) (pw_or1 (pt_cmpR op_gt (pe_fld (pv 3) rfl) (pe_gi T.i_MOST_COINS) (nomark _))))) (pss_one (ps_ret pe_bl)) pss_nil))) pss_nil)
      (C8.pss_cut (ps_if (pt_cmpR op_eq (pe_ix ix_tup (pv 0) pe_int (fun _ _ => rfl)) pe_str (nomark _)) (pss_cons (ps_aug (i := 2) nd rfl (.inl rfl) pe_int ip_add) (pss_one (ps_if (pt_cmpR op_gt (pv 2) (pe_gi T.i_DEEPEST_TIMES) (nomark _)) (pss_one (ps_ret pe_bl)) pss_nil))) pss_nil)
      (pss_cons (ps_for PassesOwn.never rfl (RZ.pi_zipA (by rfl) T.b_zip (pa_cons (pv 4) (pa_cons (pe_slice sl_tup (pv 0) (po_some pe_int) po_none) pa_nil))) (pg_two K 5 6 rfl rfl nd rfl rfl (.inl rfl) (.inl rfl) (.inr rfl) (.inr rfl))
        (pss_one (ps_if (pt_not (pt_val (pe_ca R hr (pa_cons (pv 5) (pa_cons (pv 6) (pa_cons (pv 1) (pa_cons (pv 2) (pa_cons (pv 3) pa_nil)))))  (by omega)))) (pss_one (ps_ret pe_bl)) pss_nil)))
      (pss_one (ps_ret pe_bl))))))), ?_⟩
    have lxs : ys.length = r.prts.length := by rw [dps_len hys, List.length_map]
    -- a tuple of a word and more
    refine ⟨_, rfl, _, _, rfl, .tuple ha, _, rfl, iteF ?_⟩
    refine ⟨_, rfl, _, _, rfl, .inr ha, rfl, _, rfl, ?_⟩
    rw [decide_eq_false (show ¬ V.int (((.str r.word :: ys : List V).length : Nat) : Int) = V.int 0 from fun e => by have := V.int.inj e; simp at this; omega)]
    refine iteF ?_
    refine ⟨_, rfl, _, _, _, _, rfl, rfl, ha, at0, _, _, rfl, .str _, _, rfl, iteF ?_⟩
    -- its form
    refine ⟨rfl, _, rfl, _, _, _, _, rfl, rfl, ha, at0, r.word, _, .ref f, rfl, hf, rfl, ?_⟩
    refine ⟨_, rfl, _, rfl, iteF ?_⟩
    refine ⟨_, rfl, _, _, rfl, .inr ha, _, rfl, _, _, rfl, .inr hfs, _, _, rfl, rfl, rfl, _, rfl, ?_⟩
    refine iteNS (by rw [List.length_cons, lxs, List.length_map, List.length_map]; congr 1; omega) ?_
    -- the coins
    refine ⟨fun σ' H' => σ' = [some (.ref a), some (.int deep), some (.int loops), some (.ref t), some (.ref f), none, none] ∧ But t H H' ∧ TallyAt K H' t c ((co + r.co : Nat) : Int) li, ?_, ?_⟩
    · refine ⟨_, rfl, _, _, _, _, rfl, rfl, ha, at0, rfl, _, rfl, ?_⟩
      by_cases e : r.word = "coin"
      · rw [e]
        refine iteT ?_
        obtain ⟨dx, ht'⟩ := ht
        refine ⟨_, rfl, t, _, dx, _, _, rfl, ht', T.c_Tally, T.n_Tally_coins, tf_coins .., _, _, rfl, rfl, dx, _, ht', (by rw [tfl_eq]; show 3 < 1000; decide), ?_⟩
        rw [tf_putC]
        obtain ⟨x, rfl⟩ := word_coin e
        have e1 : (Row.coin x).co = 1 := rfl
        have e2 : loops = 0 := ok.2
        have e3 := row_cc (.coin x)
        refine ⟨_, rfl, _, _, rfl, rfl, _, rfl, ?_⟩
        rw [decide_eq_false (show ¬ (0 : Int) < (loops : Int) from by omega)]
        refine iteF ⟨_, rfl, t, _, dx, _, _, rfl, upd_same, T.c_Tally, T.n_Tally_coins, tf_coins .., _, _, rfl, rfl, _, rfl, ?_⟩
        rw [decide_eq_false (show ¬ (4 : Int) < (co : Int) + 1 from by omega)]
        refine iteF ⟨rfl, But.upd, dx, ?_⟩
        rw [upd_same, e1]
        rfl
      · rw [decide_eq_false (show ¬ V.str r.word = V.str "coin" from fun z => e (V.str.inj z))]
        refine iteF ⟨rfl, fun b o _ z => z, ?_⟩
        rw [co_eq e]
        exact ht
    rintro σ1 H1 ⟨rfl, b1, ht1⟩
    -- the times
    have ch : Ch H t := by obtain ⟨dx, z⟩ := ht; exact .ins z
    have ch1 : Ch H1 t := by obtain ⟨dx, z⟩ := ht1; exact .ins z
    have ha1 := sqT_but ch b1 ha
    refine ⟨fun σ' H' => σ' = [some (.ref a), some (.int deep), some (.int ((r.lp loops : Nat) : Int)), some (.ref t), some (.ref f), none, none] ∧ H' = H1, ?_, ?_⟩
    · refine ⟨_, rfl, _, _, _, _, rfl, rfl, ha1, at0, rfl, _, rfl, ?_⟩
      by_cases e : r.word = "times"
      · rw [e]
        refine iteT ?_
        have ⟨e1, e2⟩ : r.lp loops = loops + 1 ∧ loops < 2 := by
          obtain ⟨x, y, rfl⟩ := word_times e
          exact ⟨rfl, ok.2.1⟩
        refine ⟨_, rfl, _, _, rfl, rfl, ?_⟩
        refine ⟨_, rfl, _, _, rfl, rfl, _, rfl, ?_⟩
        rw [decide_eq_false (show ¬ (2 : Int) < (loops : Int) + 1 from by omega)]
        refine iteF ⟨?_, rfl⟩
        rw [e1]
        rfl
      · rw [decide_eq_false (show ¬ V.str r.word = V.str "times" from fun z => e (V.str.inj z))]
        refine iteF ⟨?_, rfl⟩
        rw [lp_eq e]
    rintro σ2 H2 ⟨rfl, rfl⟩
    -- the parts
    refine ⟨_, rfl, _, rfl, _, rfl, a, _, rfl, ha1, cut1_not _ _, fun p np => ?_⟩
    rw [cut1]
    have hfs1 : SqT K H2 f ((r.prts.map Prt.kind).map V.str) := sqT_but ch b1 hfs
    have ntp : t ≠ p := fun z => by obtain ⟨dx, y⟩ := ht1; rw [z, np] at y; cases y
    have sn : Same H2 (upd H2 p (.tup ys)) := same_new np
    refine ⟨f, p, _, _, rfl, .inr ⟨same_t sn hfs1, .of upd_same, RZ.for_zipT (xs := (r.prts.map Prt.kind).map V.str) (ys := ys) (by simp [lxs]) (fun i σ' H' => ∃ x y, σ' = [some (.ref a), some (.int deep), some (.int ((r.lp loops : Nat) : Int)), some (.ref t), some (.ref f), x, y] ∧ But t (upd H2 p (.tup ys)) H' ∧ TallyAt K H' t c ((co + r.co + sumN ((r.prts.map Prt.cc).take i) : Nat) : Int) ((li + sumN ((r.prts.map Prt.cl).take i) : Nat) : Int))
      ⟨none, none, rfl, fun b o _ z => z, by obtain ⟨dx, y⟩ := ht1; exact ⟨dx, sn _ _ y⟩⟩ (fun i σ' H' ⟨_, _, _, bt, _⟩ => ⟨sqT_but (H := upd H2 p (.tup ys)) (by obtain ⟨dx, y⟩ := ht1; exact .ins (sn _ _ y)) bt (same_t sn hfs1), sqT_but (H := upd H2 p (.tup ys)) (by obtain ⟨dx, y⟩ := ht1; exact .ins (sn _ _ y)) bt (.of upd_same)⟩) ?_ ?_⟩⟩
    · rintro i x y tt σ' H' hx hy' ⟨_, _, rfl, bt, hta⟩ ntt
      obtain ⟨kk, hk, rfl⟩ := get_mapA hx
      obtain ⟨pp, hp, rfl⟩ := get_mapA hk
      obtain ⟨dd, hdd, hyd⟩ := dps_get hys hy'
      obtain ⟨pp', hp', rfl⟩ := get_mapA hdd
      rw [hp] at hp'
      cases hp'
      have okp := row_prts ok pp (List.mem_of_getElem? hp)
      have nl : NoL pp.d := by
        have := r.noL
        rw [row_d] at this
        cases this with
        | tup h => exact h _ (List.mem_cons_of_mem _ (List.mem_map.mpr ⟨pp, List.mem_of_getElem? hp, rfl⟩))
      have chp : Ch (upd H2 p (.tup ys)) t := by obtain ⟨dx, y⟩ := ht1; exact .ins (sn _ _ y)
      have hy2 : Dp K H' y pp.d := dp_but chp bt (dp_same sn (dp_but ch b1 hyd nl)) nl
      have sn2 : Same H' (upd H' tt (.tup [.str pp.kind, y])) := same_new ntt
      have ntt' : t ≠ tt := fun z => by obtain ⟨dx, y⟩ := hta; rw [z, ntt] at y; cases y
      have ec : ((r.prts.map Prt.cc)[i]?) = some pp.cc := by rw [List.getElem?_map, hp]; rfl
      have el : ((r.prts.map Prt.cl)[i]?) = some pp.cl := by rw [List.getElem?_map, hp]; rfl
      have sc := sumN_take ec
      have sl := sumN_take el
      have lc := sumN_le (r.prts.map Prt.cc) (i + 1)
      have ll := sumN_le (r.prts.map Prt.cl) (i + 1)
      have rc := row_cc r
      refine ⟨tt, _, rfl, SqT.of upd_same, rfl, _, _, rfl, _, _, rfl, rfl, ?_⟩
      refine ⟨_, rfl, _, rfl, _, rfl, _, rfl, _, rfl, y, pp, deep, r.lp loops, t, c, co + r.co + sumN ((r.prts.map Prt.cc).take i), li + sumN ((r.prts.map Prt.cl).take i), rfl, dp_same sn2 hy2, by obtain ⟨dx, z⟩ := hta; exact ⟨dx, sn2 _ _ z⟩, okp, hd, by omega, by omega, fun H3 b3 ht3 => ⟨_, rfl, iteF ⟨_, _, rfl, ?_, ?_⟩⟩⟩
      · exact fun b o hb z => b3 b o hb (sn2 b o (bt b o hb z))
      · rw [sc, sl, ← Nat.add_assoc, ← Nat.add_assoc]
        exact ht3
    · rintro σ' H' ⟨_, _, rfl, bt, hta⟩
      have rc := row_cc r
      refine q H' (fun b o hb z => bt b o hb (sn b o (b1 b o hb z))) ?_
      rw [List.length_map, List.length_map, List.take_of_length_le (by simp), List.take_of_length_le (by simp)] at hta
      rw [rc, ← Nat.add_assoc]
      exact hta
end

end M

set_option Elab.async false
set_option linter.all false
set_option maxRecDepth 100000
set_option maxHeartbeats 2000000
namespace M
open PySem PySem.Spec PyProof.Rows L2

def rowsOkAt {c : Int} {deep loops : Nat} : ∀ {rs : List Row}, rowsOk c deep loops rs → ∀ r ∈ rs, deep ≤ 12 ∧ r.ok c deep loops
  | [], _, r, h => by cases h
  | a :: rs, h, r, hr => by
    have h : deep ≤ 12 ∧ a.ok c deep loops ∧ rowsOk c deep loops rs := h
    rcases List.mem_cons.mp hr with rfl | hr
    · exact ⟨h.1, h.2.1⟩
    · exact rowsOkAt h.2.2 r hr
theorem rowsCl_sum : ∀ rs : List Row, rowsCl rs = sumN (rs.map Row.cl)
  | [] => rfl
  | r :: rs => by rw [rowsCl, rowsCl_sum rs]; rfl
theorem rowsCc_sum : ∀ rs : List Row, rowsCc rs = sumN (rs.map Row.cc)
  | [] => rfl
  | r :: rs => by rw [rowsCc, rowsCc_sum rs]; rfl
section
variable {P : Program} {w : World} {K : PySem.W.Frag} {mg : Str → Option Value} {base : Heap}
theorem ca_are_body_rows {n : Nat} (R : Ca P w K mg base (3 * n + 12) "is_body_row" (spRow K n)) (T : Txt w K mg) : Ca P w K mg base (3 * n + 13) "are_body_rows" (spRows K (n + 1)) := by
    refine ca_of (N := ["rows", "deep", "loops", "tally", "row"]) (ps := ["rows", "deep", "loops", "tally"]) T.f_are_body_rows T.g_are_body_rows ⟨rfl, rfl, rfl, by decide +kernel, rfl, by decide +kernel, by decide +kernel⟩ (fun _ _ _ _ _ _ us hl => match us, hl with | [_, _, _, _], _ => rfl)
      (fun vs H Q E h => by obtain ⟨v, rs, deep, loops, t, c, co, li, rfl, hv, ht, ok, hd, hc, hl, q⟩ := h; rfl) (fun cdv A outer s H vs Q E hr h => ?_)
    have nd : (["rows", "deep", "loops", "tally", "row"] : List Str).Nodup := by decide +kernel
    obtain ⟨v, rs, deep, loops, t, c, co, li, rfl, hv, ht, ok, hd, hc, hl, q⟩ := h
    obtain ⟨a, xs, rfl, ha, hxs⟩ := dp_tup hv
    have lxs : xs.length = rs.length := by rw [dps_len hxs, rowsD_map, List.length_map]
    have ch : Ch H t := by obtain ⟨dx, z⟩ := ht; exact .ins z
    refine ⟨_, (pss_cons (ps_if (pt_not (pt_val (pe_is .tuple T.b_isinstance (pv 0) T.b_tuple boot_tuple))) (pss_one (ps_ret pe_bl)) pss_nil)
      (pss_cons (ps_for PassesOwn.never rfl (pi_tup (pv 0)) (pg_name (i := 4) nd rfl (.inl rfl)) (pss_cons (ps_fldaug (pv 3) pe_int in_add)
      (pss_one (ps_if (PW.pt (pw_or (pt_cmpR op_gt (pv 1) (pe_gi T.i_DEEPEST_ROW) (nomark _)) (pw_or (pt_cmpR op_gt (pe_fld (pv 3) rfl) (pe_gi T.i_MOST_ROWS) (nomark _)) (pw_or1 (pt_not (pt_val (pe_ca R hr (pa_cons (pv 4) (pa_cons (pv 1) (pa_cons (pv 2) (pa_cons (pv 3) pa_nil)))) (by omega)))))))) (pss_one (ps_ret pe_bl)) pss_nil))))
      (pss_one (ps_ret pe_bl)))), ?_⟩
    refine ⟨_, rfl, _, _, rfl, .tuple ha, _, rfl, iteF ?_⟩
    refine ⟨_, rfl, a, rfl, ⟨_, ha⟩, for_tup (xs := xs) (fun i σ' H' => ∃ x, σ' = [some (.ref a), some (.int deep), some (.int loops), some (.ref t), x] ∧ But t H H' ∧ TallyAt K H' t c ((co + sumN ((rs.map Row.cc).take i) : Nat) : Int) ((li + sumN ((rs.map Row.cl).take i) : Nat) : Int))
      ⟨none, rfl, fun b o _ z => z, ht⟩ (fun i σ' H' _ ⟨_, _, bt, _⟩ => sqT_but ch bt ha) ?_ ?_⟩
    · rintro i x σ' H' hx ⟨_, rfl, bt, hta⟩
      obtain ⟨dd, hdd, hxd⟩ := dps_get hxs hx
      rw [rowsD_map] at hdd
      obtain ⟨r, hr', rfl⟩ := get_mapA hdd
      have okr := rowsOkAt ok r (List.mem_of_getElem? hr')
      have ec : ((rs.map Row.cc)[i]?) = some r.cc := by rw [List.getElem?_map, hr']; rfl
      have el : ((rs.map Row.cl)[i]?) = some r.cl := by rw [List.getElem?_map, hr']; rfl
      have sc := sumN_take ec
      have sl := sumN_take el
      have lc := sumN_le (rs.map Row.cc) (i + 1)
      have ll := sumN_le (rs.map Row.cl) (i + 1)
      have rl := row_cl r
      have s1 := rowsCl_sum rs
      have s2 := rowsCc_sum rs
      have hx2 : Dp K H' x r.d := dp_but ch bt hxd r.noL
      obtain ⟨dx, hta'⟩ := id hta
      refine ⟨_, rfl, t, _, dx, _, _, rfl, hta', T.c_Tally, T.n_Tally_lines, tf_lines .., _, _, rfl, rfl, dx, _, hta', (by rw [tfl_eq]; show 3 < 1000; decide), ?_⟩
      rw [tf_putL]
      refine ⟨_, rfl, _, _, rfl, rfl, _, rfl, ?_⟩
      rw [decide_eq_false (show ¬ (12 : Int) < (deep : Int) from by omega)]
      refine iteF ⟨_, rfl, t, _, dx, _, _, rfl, upd_same, T.c_Tally, T.n_Tally_lines, tf_lines .., _, _, rfl, rfl, _, rfl, ?_⟩
      rw [decide_eq_false (show ¬ (2000 : Int) < ((li + sumN ((rs.map Row.cl).take i) : Nat) : Int) + 1 from by omega)]
      have ch' : Ch H' t := .ins hta'
      refine iteF ⟨_, rfl, _, rfl, _, rfl, _, rfl, x, r, deep, loops, t, c, co + sumN ((rs.map Row.cc).take i), li + sumN ((rs.map Row.cl).take i) + 1, rfl, dp_but ch' But.upd hx2 r.noL, ⟨dx, by rw [upd_same]; rfl⟩, okr.2, ⟨by omega, okr.1⟩, by omega, by omega, fun H3 b3 ht3 => ⟨_, rfl, iteF ⟨_, rfl, ?_, ?_⟩⟩⟩
      · exact fun b o hb z => b3 b o hb (by rw [upd_ne hb]; exact bt b o hb z)
      · rw [sc, sl, ← Nat.add_assoc, show li + (sumN ((rs.map Row.cl).take i) + r.cl) = li + sumN ((rs.map Row.cl).take i) + 1 + sumN (r.prts.map Prt.cl) from by omega]
        exact ht3
    · rintro σ' H' ⟨_, rfl, bt, hta⟩
      refine q H' bt ?_
      rw [lxs, List.take_of_length_le (by simp), List.take_of_length_le (by simp)] at hta
      rw [rowsCl_sum, rowsCc_sum]
      exact hta
theorem ca_rows (T : Txt w K mg) : ∀ n, Ca P w K mg base (3 * n + 10) "are_body_rows" (spRows K n)
  | 0 => ca_false (ps := ["rows", "deep", "loops", "tally"]) T.f_are_body_rows T.g_are_body_rows (fun _ _ _ _ _ _ us hl => match us, hl with | [_, _, _, _], _ => rfl)
  | n + 1 => ca_are_body_rows (ca_is_body_row (ca_is_part (ca_rows T n) T) T) T
def spBody (K : PySem.W.Frag) : Sp := fun vs H Q _ => ∃ (v : V) (rs : List Row) (c : Int), vs = [v, .int c] ∧ Dp K H v (.tuple (rowsD rs)) ∧ rowsOk c 1 0 rs ∧ rowsCc rs ≤ 4 ∧ rowsCl rs ≤ 2000 ∧ ∀ H', Same H H' → Q (.bl true) H'
theorem ca_is_body (T : Txt w K mg) : Ca P w K mg base 50 "is_body" (spBody K) := by
  refine ca_of (N := ["rows", "cells"]) (ps := ["rows", "cells"]) T.f_is_body T.g_is_body ⟨rfl, rfl, rfl, by decide +kernel, rfl, by decide +kernel, by decide +kernel⟩ (fun _ _ _ _ _ _ us hl => match us, hl with | [_, _], _ => rfl)
    (fun vs H Q E h => by obtain ⟨v, rs, c, rfl, hv, ok, hc, hl, q⟩ := h; rfl) (fun cdv A outer s H vs Q E hr h => ?_)
  have nd : (["rows", "cells"] : List Str).Nodup := by decide +kernel
  obtain ⟨v, rs, c, rfl, hv, ok, hc, hl, q⟩ := h
  refine ⟨_, pss_one (ps_ret (pe_ca (ca_rows T 13) hr (pa_cons (pv 0) (pa_cons pe_int (pa_cons pe_int (pa_cons (pe_ma (ma_Tally T) hr (pa_cons (pv 1) pa_nil)) pa_nil)))))), ?_⟩
  refine ⟨_, rfl, _, rfl, fun t dx nt nd ndt => ?_⟩
  have s0 : ∀ o : HO, Same H (upd (upd H dx (.own t)) t o) := fun o b u e => by
    rw [upd_ne (ne_of_none e nt), upd_ne (ne_of_none e nd)]
    exact e
  refine ⟨t, dx, c, rfl, upd_same, rfl, v, rs, 1, 0, t, c, 0, 0, rfl, ?_, ⟨dx, upd_same⟩, ok, (by decide), by omega, by omega, fun H' bt _ => ?_⟩
  · rw [upd_upd]
    exact dp_same (s0 _) hv
  · rw [upd_upd] at bt
    exact q H' fun b o e => bt b o (ne_of_none e nt) (s0 _ b o e)
end

end M

set_option Elab.async false
set_option linter.all false
set_option maxRecDepth 100000
set_option maxHeartbeats 2000000
namespace M
open PySem PySem.Spec PyProof.Rows L2

def CellOk (c : Int × Int) : Prop := 1 ≤ c.1 ∧ c.1 ≤ 9 ∧ 0 ≤ c.2 ∧ c.2 < c.1
def NameOk (s : Str) : Prop := 1 ≤ s.length ∧ s.length ≤ 8 ∧ ∀ c ∈ s.cps.toList, 97 ≤ c ∧ c ≤ 122
def DeedOk (c : Int) (d : Str × Int × List Row) : Prop := NameOk d.1 ∧ (1 ≤ d.2.1 ∧ d.2.1 ≤ 9) ∧ rowsOk c 1 0 d.2.2 ∧ rowsCc d.2.2 ≤ 4 ∧ rowsCl d.2.2 ≤ 2000
/-- what a vault is -/
structure VGood (v : Vlt) : Prop where
  c0 : 1 ≤ v.cells.length
  c1 : v.cells.length ≤ 6
  cs : ∀ c ∈ v.cells, CellOk c
  d0 : 1 ≤ v.deeds.length
  d1 : v.deeds.length ≤ 8
  ds : ∀ d ∈ v.deeds, DeedOk v.cells.length d
  nd : (v.deeds.map (·.1)).Nodup
theorem VGood.ok {v : Vlt} (g : VGood v) : VOk v := ⟨g.c1, g.d1, fun d hd => (g.ds d hd).2.1, g.nd⟩
theorem deed_noL (d : Str × Int × List Row) : NoL (deedD d) := .tup (by
  intro e h
  simp at h
  rcases h with rfl | rfl | rfl
  · exact .str _
  · exact .int _
  · exact .tup (rows_noL _))
theorem cell_noL (c : Int × Int) : NoL (cellD c) := .tup (by
  intro e h
  simp at h
  rcases h with rfl | rfl <;> constructor)
theorem sign_le {a c : Nat} (h : a ≤ c) : (!decide (([c] : List Nat) < [a])) = true := by
  have : ¬ (([c] : List Nat) < [a]) := by
    rw [List.cons_lt_cons_iff]
    rintro (h1 | ⟨_, h2⟩)
    · omega
    · exact absurd h2 (by simp)
  rw [decide_eq_false this]
  rfl
theorem Ch.ext {H : Hp} {D : Addr} {φ : Heap → Prop} (h : H D = some (.ext φ)) : Ch H D := ⟨fun _ e => (by rw [h] at e; cases e), fun _ _ e => (by rw [h] at e; cases e)⟩
theorem if_true_of {c : Bool} {A B : Prop} (hc : c = true) (h : A) : if c = true then A else B := by
  rw [if_pos hc]
  exact h
theorem if_not_of {c : Bool} {A B : Prop} (hc : c = true) (h : B) : if (!c) = true then A else B := by
  rw [hc]
  exact iteF h
section
variable {P : Program} {w : World} {K : PySem.W.Frag} {mg : Str → Option Value} {base : Heap}
def spCell (K : PySem.W.Frag) : Sp := fun vs H Q _ => ∃ (v : V) (c : Int × Int), vs = [v] ∧ Dp K H v (cellD c) ∧ CellOk c ∧ Q (.bl true) H
theorem ca_is_cell (T : Txt w K mg) : Ca P w K mg base 3 "is_cell" (spCell K) := by
  refine ca_of (N := ["value"]) (ps := ["value"]) T.f_is_cell T.g_is_cell ⟨rfl, rfl, rfl, by decide +kernel, rfl, by decide +kernel, by decide +kernel⟩ (fun _ _ _ _ _ _ us hl => match us, hl with | [_], _ => rfl)
    (fun vs H Q E h => by obtain ⟨v, c, rfl, hv, ok, q⟩ := h; rfl) (fun cdv A outer s H vs Q E hr h => ?_)
  have nd : (["value"] : List Str).Nodup := by decide +kernel
  obtain ⟨v, c, rfl, hv, ok, q⟩ := h
  refine ⟨_, (pss_one (ps_ret (pe_and (pe_ca (ca_is_tuple T) hr (pa_cons (pv 0) (pa_cons pe_int pa_nil))) (pe_and (pe_ca (ca_is_within T) hr (pa_cons (pe_ix ix_tup (pv 0) pe_int (fun _ _ => rfl)) (pa_cons pe_int (pa_cons (pe_gi T.i_GREATEST_SIZE) pa_nil)))) (pe_one (pe_ca (ca_is_within T) hr (pa_cons (pe_ix ix_tup (pv 0) pe_int (fun _ _ => rfl)) (pa_cons pe_int (pa_cons (pe_op op_sub (pe_ix ix_tup (pv 0) pe_int (fun _ _ => rfl)) pe_int) pa_nil))))))))), ?_⟩
  obtain ⟨a, x, y, rfl, ha, hx, hy⟩ := dp2 hv
  cases dp_int hx
  cases dp_int hy
  obtain ⟨o1, o2, o3, o4⟩ := ok
  refine ⟨_, rfl, a, _, _, rfl, ha, _, rfl, iteT ?_⟩
  refine ⟨_, rfl, _, _, _, _, rfl, rfl, ha, at0, c.1, 1, 9, rfl, _, rfl, ?_⟩
  rw [within_t ⟨o1, o2⟩]
  refine iteT ⟨_, rfl, _, _, _, _, rfl, rfl, ha, at1, _, rfl, _, _, _, _, rfl, rfl, ha, at0, _, _, rfl, rfl, c.2, 0, c.1 - 1, rfl, ?_⟩
  rw [within_t ⟨o3, by omega⟩]
  exact q
def spCells (K : PySem.W.Frag) : Sp := fun vs H Q _ => ∃ (a : Addr) (xs : List V) (cs : List (Int × Int)), vs = [.ref a] ∧ SqL K H a xs ∧ DpAll K H xs (cs.map cellD) ∧ 1 ≤ cs.length ∧ cs.length ≤ 6 ∧ (∀ c ∈ cs, CellOk c) ∧ Q (.bl true) H
theorem ca_are_cells (T : Txt w K mg) : Ca P w K mg base 4 "are_cells" (spCells K) := by
  refine ca_of (N := ["cells", "cell"]) (ps := ["cells"]) T.f_are_cells T.g_are_cells ⟨rfl, rfl, rfl, by decide +kernel, rfl, by decide +kernel, by decide +kernel⟩ (fun _ _ _ _ _ _ us hl => match us, hl with | [_], _ => rfl)
    (fun vs H Q E h => by obtain ⟨a, xs, cs, rfl, ha, hxs, h1, h6, ok, q⟩ := h; rfl) (fun cdv A outer s H vs Q E hr h => ?_)
  have nd : (["cells", "cell"] : List Str).Nodup := by decide +kernel
  obtain ⟨a, xs, cs, rfl, ha, hxs, h1, h6, ok, q⟩ := h
  have lx : xs.length = cs.length := by rw [dps_len hxs, List.length_map]
  refine ⟨_, (pss_cons (ps_if (pt_not (pt_chain op_le op_le pe_int (pe_callB call_len_seq (by rfl) T.b_len PySem.boot_len (pa_cons (pv 0) pa_nil)) (pe_gi T.i_MOST_CELLS))) (pss_one (ps_ret pe_bl)) pss_nil)
      (pss_cons (ps_for PassesOwn.never rfl (pi_list (pv 0)) (pg_name (i := 1) nd rfl (.inl rfl)) (pss_one (ps_if (pt_not (pt_val (pe_ca (ca_is_cell T) hr (pa_cons (pv 1) pa_nil)))) (pss_one (ps_ret pe_bl)) pss_nil)))
      (pss_one (ps_ret pe_bl)))), ?_⟩
  refine ⟨_, rfl, _, _, rfl, .inl ha, _, _, rfl, rfl, _, rfl, ?_⟩
  rw [lx, decide_eq_true (show (1 : Int) ≤ (cs.length : Int) from by omega)]
  refine iteT ⟨_, _, rfl, rfl, _, rfl, ?_⟩
  rw [decide_eq_true (show (cs.length : Int) ≤ 6 from by omega)]
  refine iteF ⟨_, rfl, a, rfl, ⟨_, ha⟩, for_list (xs := xs) (fun i σ' H' => ∃ x, σ' = [some (.ref a), x] ∧ H' = H) ⟨none, rfl, rfl⟩ (fun i σ' H' _ ⟨_, _, e⟩ => e ▸ ha) ?_ ?_⟩
  · rintro i x σ' H' hx ⟨_, rfl, rfl⟩
    obtain ⟨d, hd, hxd⟩ := dps_get hxs hx
    obtain ⟨c, hc, rfl⟩ := get_mapA hd
    exact ⟨_, rfl, x, c, rfl, hxd, ok c (List.mem_of_getElem? hc), _, rfl, iteF ⟨_, rfl, rfl⟩⟩
  · rintro σ' H' ⟨_, rfl, rfl⟩
    exact q
def spName : Sp := fun vs H Q _ => ∃ (s : Str), vs = [.str s] ∧ NameOk s ∧ Q (.bl true) H
theorem ca_is_name (T : Txt w K mg) : Ca P w K mg base 1 "is_name" (spName) := by
  refine ca_of (N := ["value", "letter"]) (ps := ["value"]) T.f_is_name T.g_is_name ⟨rfl, rfl, rfl, by decide +kernel, rfl, by decide +kernel, by decide +kernel⟩ (fun _ _ _ _ _ _ us hl => match us, hl with | [_], _ => rfl)
    (fun vs H Q E h => by obtain ⟨s, rfl, ok, q⟩ := h; rfl) (fun cdv A outer s H vs Q E hr h => ?_)
  have nd : (["value", "letter"] : List Str).Nodup := by decide +kernel
  obtain ⟨s, rfl, ok, q⟩ := h
  refine ⟨_, (pss_cons (ps_if (PW.pt (pw_or (pt_not (pt_val (pe_is .str T.b_isinstance (pv 0) T.b_str boot_str))) (pw_or1 (pt_not (pt_chain op_le op_le pe_int (pe_callB call_len_str (by rfl) T.b_len PySem.boot_len (pa_cons (pv 0) pa_nil)) (pe_gi T.i_LONGEST_NAME)))))) (pss_one (ps_ret pe_bl)) pss_nil)
      (pss_cons (ps_for PassesOwn.never rfl (pi_str (pv 0)) (pg_name (i := 1) nd rfl (.inl rfl)) (pss_one (ps_if (pt_not (pt_chain op_le_str op_le_str pe_str (pv 1) pe_str)) (pss_one (ps_ret pe_bl)) pss_nil)))
      (pss_one (ps_ret pe_bl)))), ?_⟩
  refine ⟨_, rfl, _, _, rfl, .str s, _, rfl, iteF ?_⟩
  have l8 := ok.2.1
  refine ⟨_, rfl, _, rfl, by rw [sizeLine_eq]; omega, _, _, rfl, rfl, _, rfl, ?_⟩
  rw [decide_eq_true (show (1 : Int) ≤ (s.length : Int) from by have := ok.1; omega)]
  refine iteT ⟨_, _, rfl, rfl, _, rfl, ?_⟩
  rw [decide_eq_true (show (s.length : Int) ≤ 8 from by omega)]
  refine iteF ⟨_, rfl, _, rfl, for_it (n := s.cps.size) walk_str (fun i σ' H' => ∃ x, σ' = [some (.str s), x] ∧ H' = H) ⟨none, rfl, rfl⟩ (fun _ _ _ _ _ => trivial) ?_ ?_⟩
  · rintro i x σ' H' H2 hi ⟨_, rfl, rfl⟩ ⟨rfl, c, hc, rfl⟩
    have hm : c ∈ s.cps.toList := by
      rw [← Array.getElem?_toList] at hc
      exact List.mem_of_getElem? hc
    have b := ok.2.2 c hm
    refine ⟨_, rfl, _, _, rfl, rfl, _, rfl, ?_⟩
    refine (if_true_of (sign_le b.1) ?_)
    refine ⟨_, _, rfl, rfl, _, rfl, ?_⟩
    refine if_not_of (sign_le b.2) ⟨_, rfl, rfl⟩
  · rintro σ' H' ⟨_, rfl, rfl⟩
    exact q
theorem cut2 (x y z : V) : cutV [x, y, z] none (some 2) = [x, y] := by
  unfold cutV
  rw [show (some (2 : Int)) = some ((2 : Nat) : Int) from rfl, HT.sIx_nat, HT.sIx_none]
  rfl
theorem cut2_not (x y z : V) : ¬ (HT.sIx [x, y, z].length 0 none = 0 ∧ HT.sIx [x, y, z].length [x, y, z].length (some 2) = [x, y, z].length) := by
  rw [show (some (2 : Int)) = some ((2 : Nat) : Int) from rfl, HT.sIx_nat]
  intro h
  exact absurd h.2 (by show ¬ (min 2 3 = 3); decide)
def spHead (K : PySem.W.Frag) : Sp := fun vs H Q _ => ∃ (v : V) (nm : Str) (ch : Int), vs = [v] ∧ Dp K H v (.tuple [.str nm, .int ch]) ∧ NameOk nm ∧ (1 ≤ ch ∧ ch ≤ 9) ∧ Q (.bl true) H
theorem ca_is_deed_head (T : Txt w K mg) : Ca P w K mg base 3 "is_deed_head" (spHead K) := by
  refine ca_of (N := ["value"]) (ps := ["value"]) T.f_is_deed_head T.g_is_deed_head ⟨rfl, rfl, rfl, by decide +kernel, rfl, by decide +kernel, by decide +kernel⟩ (fun _ _ _ _ _ _ us hl => match us, hl with | [_], _ => rfl)
    (fun vs H Q E h => by obtain ⟨v, nm, ch, rfl, hv, o1, o2, q⟩ := h; rfl) (fun cdv A outer s H vs Q E hr h => ?_)
  have nd : (["value"] : List Str).Nodup := by decide +kernel
  obtain ⟨v, nm, ch, rfl, hv, o1, o2, q⟩ := h
  refine ⟨_, (pss_one (ps_ret (pe_and (pe_ca (ca_is_tuple T) hr (pa_cons (pv 0) (pa_cons pe_int pa_nil))) (pe_and (pe_ca (ca_is_name T) hr (pa_cons (pe_ix ix_tup (pv 0) pe_int (fun _ _ => rfl)) pa_nil)) (pe_one (pe_ca (ca_is_within T) hr (pa_cons (pe_ix ix_tup (pv 0) pe_int (fun _ _ => rfl)) (pa_cons pe_int (pa_cons (pe_gi T.i_MOST_CHOICES) pa_nil))))))))), ?_⟩
  obtain ⟨a, x, y, rfl, ha, hx, hy⟩ := dp2 hv
  cases dp_str hx
  cases dp_int hy
  refine ⟨_, rfl, a, _, _, rfl, ha, _, rfl, iteT ?_⟩
  refine ⟨_, rfl, _, _, _, _, rfl, rfl, ha, at0, nm, rfl, o1, _, rfl, iteT ?_⟩
  refine ⟨_, rfl, _, _, _, _, rfl, rfl, ha, at1, ch, 1, 9, rfl, ?_⟩
  rw [within_t o2]
  exact q
def spDeed (K : PySem.W.Frag) : Sp := fun vs H Q _ => ∃ (v : V) (d : Str × Int × List Row) (c : Int), vs = [v, .int c] ∧ Dp K H v (deedD d) ∧ DeedOk c d ∧ ∀ H', Same H H' → Q (.bl true) H'
theorem ca_is_deed (T : Txt w K mg) : Ca P w K mg base 51 "is_deed" (spDeed K) := by
  refine ca_of (N := ["value", "cells"]) (ps := ["value", "cells"]) T.f_is_deed T.g_is_deed ⟨rfl, rfl, rfl, by decide +kernel, rfl, by decide +kernel, by decide +kernel⟩ (fun _ _ _ _ _ _ us hl => match us, hl with | [_, _], _ => rfl)
    (fun vs H Q E h => by obtain ⟨v, d, c, rfl, hv, ok, q⟩ := h; rfl) (fun cdv A outer s H vs Q E hr h => ?_)
  have nd : (["value", "cells"] : List Str).Nodup := by decide +kernel
  obtain ⟨v, d, c, rfl, hv, ok, q⟩ := h
  refine ⟨_, (pss_one (ps_ret (pe_and (pe_ca (ca_is_tuple T) hr (pa_cons (pv 0) (pa_cons pe_int pa_nil))) (pe_and (pe_ca (ca_is_deed_head T) hr (pa_cons (pe_slice sl_tup (pv 0) po_none (po_some pe_int)) pa_nil)) (pe_one (pe_ca (ca_is_body T) hr (pa_cons (pe_ix ix_tup (pv 0) pe_int (fun _ _ => rfl)) (pa_cons (pv 1) pa_nil)))))))), ?_⟩
  obtain ⟨a, x, y, z, rfl, ha, hx, hy, hz⟩ := dp3 hv
  cases dp_str hx
  cases dp_int hy
  obtain ⟨o1, o2, o3, o4, o5⟩ := ok
  refine ⟨_, rfl, a, _, _, rfl, ha, _, rfl, iteT ?_⟩
  refine ⟨_, rfl, _, rfl, a, _, rfl, ha, cut2_not _ _ _, fun p np => ?_⟩
  rw [cut2]
  have s1 := same_new (o := .tup [.str d.1, .int d.2.1]) np
  refine ⟨_, d.1, d.2.1, rfl, .tup (.of upd_same) (.cons (.str _) (.cons (.int _) .nil)), o1, o2, _, rfl, iteT ?_⟩
  exact ⟨_, rfl, _, _, _, _, rfl, rfl, same_t s1 ha, at2, _, rfl, z, d.2.2, c, rfl, dp_same s1 hz, o3, o4, o5, fun H2 s2 => q H2 (s1.trans s2)⟩
def spDeeds (K : PySem.W.Frag) : Sp := fun vs H Q _ => ∃ (a : Addr) (xs : List V) (ds : List (Str × Int × List Row)) (c : Int), vs = [.ref a, .int c] ∧ SqL K H a xs ∧ DpAll K H xs (ds.map deedD) ∧ 1 ≤ ds.length ∧ ds.length ≤ 8 ∧ (∀ d ∈ ds, DeedOk c d) ∧ (ds.map (·.1)).Nodup ∧ ∀ H', Same H H' → Q (.bl true) H'
theorem ca_are_deeds (T : Txt w K mg) : Ca P w K mg base 52 "are_deeds" (spDeeds K) := by
  refine ca_of (N := ["deeds", "cells", "taken", "deed"]) (ps := ["deeds", "cells"]) T.f_are_deeds T.g_are_deeds ⟨rfl, rfl, rfl, by decide +kernel, rfl, by decide +kernel, by decide +kernel⟩ (fun _ _ _ _ _ _ us hl => match us, hl with | [_, _], _ => rfl)
    (fun vs H Q E h => by obtain ⟨a, xs, ds, c, rfl, ha, hxs, h1, h8, ok, nds, q⟩ := h; rfl) (fun cdv A outer s H vs Q E hr h => ?_)
  have nd : (["deeds", "cells", "taken", "deed"] : List Str).Nodup := by decide +kernel
  obtain ⟨a, xs, ds, c, rfl, ha, hxs, h1, h8, ok, nds, q⟩ := h
  have lx : xs.length = ds.length := by rw [dps_len hxs, List.length_map]
  refine ⟨_, (pss_cons (ps_if (pt_not (pt_chain op_le op_le pe_int (pe_callB call_len_seq (by rfl) T.b_len PySem.boot_len (pa_cons (pv 0) pa_nil)) (pe_gi T.i_MOST_DEEDS))) (pss_one (ps_ret pe_bl)) pss_nil)
      (pss_cons (ps_set (i := 2) nd rfl (.inl rfl) (pe_callTy0 cr_set0K (by rfl) T.b_set boot_set))
      (pss_cons (ps_for PassesOwn.never rfl (pi_list (pv 0)) (pg_name (i := 3) nd rfl (.inl rfl)) (pss_cons (ps_if (PW.pt (pw_or (pt_not (pt_val (pe_ca (ca_is_deed T) hr (pa_cons (pv 3) (pa_cons (pv 1) pa_nil))))) (pw_or1 (pt_cmpR or_sinK (pe_ix ix_tup (pv 3) pe_int (fun _ _ => rfl)) (pv 2) (by rfl))))) (pss_one (ps_ret pe_bl)) pss_nil)
      (pss_one (ps_expr (pe_saddK (pv 2) (pa_cons (pe_ix ix_tup (pv 3) pe_int (fun _ _ => rfl)) pa_nil))))))
      (pss_one (ps_ret pe_bl))))), ?_⟩
  refine ⟨_, rfl, _, _, rfl, .inl ha, _, _, rfl, rfl, _, rfl, ?_⟩
  rw [lx, decide_eq_true (show (1 : Int) ≤ (ds.length : Int) from by omega)]
  refine iteT ⟨_, _, rfl, rfl, _, rfl, ?_⟩
  rw [decide_eq_true (show (ds.length : Int) ≤ 8 from by omega)]
  refine iteF ⟨rfl, fun p np => ?_⟩
  have s0 : Same H (upd H p (SetK P w p (fun _ => false) 0)) := same_new np
  have mem : ∀ (i : Nat) (H' : Hp), But p (upd H p (SetK P w p (fun _ => false) 0)) H' → SqL K H' a xs := fun i H' bt => (show Same H H' from fun b o e => bt b o (ne_of_none e np) (s0 b o e)).seq ha
  refine ⟨_, rfl, a, rfl, ⟨_, s0.seq ha⟩, for_list (xs := xs) (fun i σ' H' => ∃ (x : Option V) (S : L2.Key → Bool) (n : Nat), σ' = [some (.ref a), some (.int c), some (.ref p), x] ∧ But p (upd H p (SetK P w p (fun _ => false) 0)) H' ∧ H' p = some (SetK P w p S n) ∧ n ≤ i ∧ ∀ k, S k = true → ∃ d ∈ ds.take i, k = Sum.inr d.1)
    ⟨none, fun _ => false, 0, rfl, fun b o _ z => z, upd_same, Nat.le_refl _, fun k e => by cases e⟩ (fun i σ' H' _ ⟨_, _, _, _, bt, _⟩ => mem i H' bt) ?_ ?_⟩
  · rintro i x σ' H' hx ⟨_, S, n, rfl, bt, hp, hn, hS⟩
    have sH : Same H H' := fun b o e => bt b o (ne_of_none e np) (s0 b o e)
    obtain ⟨d, hd, hxd⟩ := dps_get hxs hx
    obtain ⟨dd, hdd, rfl⟩ := get_mapA hd
    have hi : i < ds.length := (List.getElem?_eq_some_iff.mp hdd).1
    refine ⟨_, rfl, _, rfl, x, dd, c, rfl, dp_same sH hxd, ok dd (List.mem_of_getElem? hdd), fun H2 s2 => ⟨_, rfl, iteF ?_⟩⟩
    obtain ⟨t, y1, y2, y3, rfl, ht, e1, e2, e3⟩ := dp3 (dp_same (sH.trans s2) hxd)
    cases dp_str e1
    have hSf : S (Sum.inr dd.1) = false := by
      cases e : S (Sum.inr dd.1) with
      | false => rfl
      | true =>
        obtain ⟨d', hd', ed⟩ := hS _ e
        obtain ⟨j, hj, ej⟩ := List.mem_iff_getElem.mp hd'
        rw [List.length_take] at hj
        rw [List.getElem_take] at ej
        have n1 : (ds.map (·.1))[i]? = some dd.1 := by rw [List.getElem?_map, hdd]; rfl
        have n2 : (ds.map (·.1))[j]? = some dd.1 := by
          rw [List.getElem?_map, List.getElem?_eq_getElem (by omega : j < ds.length), ej]
          exact congrArg some (Sum.inr.inj ed).symm
        have := nd_ix nds n1 n2
        omega
    refine ⟨_, rfl, _, _, _, _, rfl, rfl, ht, at0, _, rfl, Sum.inr dd.1, p, S, n, rfl, rfl, s2 _ _ hp, _, rfl, ?_⟩
    rw [hSf]
    refine iteF ⟨_, rfl, ⟨p, S, n, rfl, s2 _ _ hp⟩, _, rfl, _, _, _, _, rfl, rfl, ht, at0, p, Sum.inr dd.1, S, n, rfl, rfl, s2 _ _ hp, (by show n + 1 < 4096; omega), ?_⟩
    refine ⟨_, _, _, rfl, fun b o hb z => ?_, upd_same, ?_, fun k e => ?_⟩
    · rw [upd_ne hb]
      exact s2 b o (bt b o hb z)
    · rw [hSf]
      show n + 1 ≤ i + 1
      omega
    · rw [take_more hdd]
      rcases Bool.or_eq_true_iff.mp e with h | h
      · obtain ⟨d', hd', e'⟩ := hS k h
        exact ⟨d', List.mem_append_left _ hd', e'⟩
      · exact ⟨dd, List.mem_append_right _ List.mem_cons_self, of_decide_eq_true h⟩
  · rintro σ' H' ⟨_, S, n, rfl, bt, hp, _⟩
    exact q H' fun b o e => bt b o (ne_of_none e np) (s0 b o e)
end

end M

set_option Elab.async false
set_option linter.all false
set_option maxRecDepth 100000
set_option maxHeartbeats 2000000
namespace M
open PySem PySem.Spec PyProof.Rows L2

/-! ### codes: no hole is left, their size -/
def FR.hd : FR → Option Str
  | .row r => some r.word
  | .unless _ _ => some "unless"
  | .on _ => some "on"
  | .rounds _ => some "rounds"
  | .round _ => some "round"
  | .hole => none
def FR.tl : FR → List PyData
  | .row r => r.prts.map Prt.d
  | .unless e p => [e.d, .int p]
  | .on p => [.int p]
  | .rounds e => [e.d]
  | .round p => [.int p]
  | .hole => []
theorem fr_d : ∀ {f : FR} {s : Str}, f.hd = some s → f.d = .tuple (.str s :: f.tl)
  | .row r, s, h => by
    cases (Option.some.inj h)
    exact row_d r
  | .hole, s, h => by cases h
  | .unless e p, s, h => by
    cases (Option.some.inj h)
    rfl
  | .on p, s, h => by
    cases (Option.some.inj h)
    rfl
  | .rounds e, s, h => by
    cases (Option.some.inj h)
    rfl
  | .round p, s, h => by
    cases (Option.some.inj h)
    rfl
/-- c' goes on from c, nothing new is a hole, n more at most -/
structure Goes (c c' : List FR) (n : Nat) : Prop where
  le : c.length ≤ c'.length
  old : ∀ i, i < c.length → c'[i]? = c[i]?
  new : ∀ i f, c.length ≤ i → c'[i]? = some f → f.hd ≠ none
  sz : c'.length ≤ c.length + n
theorem goes_one {c : List FR} {f : FR} {n : Nat} (h : f.hd ≠ none) (hn : 1 ≤ n) : Goes c (c ++ [f]) n := by
  refine ⟨by simp, fun i hi => List.getElem?_append_left hi, fun i g hi e => ?_, by simp; omega⟩
  rw [List.getElem?_append_right hi] at e
  cases q : i - c.length with
  | zero =>
    rw [q] at e
    cases (Option.some.inj e)
    exact h
  | succ m =>
    rw [q] at e
    simp at e
mutual
theorem putRow_goes : ∀ (r : Row) (c : List FR), Goes c (putRow r c) (3 * r.cl)
  | .read r k, c => goes_one (by simp [FR.hd]) (by simp [Row.cl])
  | .set k e, c => goes_one (by simp [FR.hd]) (by simp [Row.cl])
  | .swap r k e f, c => goes_one (by simp [FR.hd]) (by simp [Row.cl])
  | .keep r e, c => goes_one (by simp [FR.hd]) (by simp [Row.cl])
  | .coin r, c => goes_one (by simp [FR.hd]) (by simp [Row.cl])
  | .ans e, c => goes_one (by simp [FR.hd]) (by simp [Row.cl])
  | .iff e a b, c => by
    have g1 := putRows_goes a (c ++ [FR.hole])
    generalize h1 : putRows a (c ++ [FR.hole]) = c1 at g1
    have g2 := putRows_goes b ((c1 ++ [FR.hole]).set c.length (FR.unless e (c1.length + 1)))
    generalize h2 : putRows b ((c1 ++ [FR.hole]).set c.length (FR.unless e (c1.length + 1))) = c2 at g2
    have e0 : putRow (.iff e a b) c = c2.set c1.length (FR.on c2.length) := by
      show (putRows b (((putRows a (c ++ [FR.hole])) ++ [FR.hole]).set c.length (FR.unless e ((putRows a (c ++ [FR.hole])).length + 1)))).set (putRows a (c ++ [FR.hole])).length (FR.on (putRows b (((putRows a (c ++ [FR.hole])) ++ [FR.hole]).set c.length (FR.unless e ((putRows a (c ++ [FR.hole])).length + 1)))).length) = _
      rw [h1, h2]
    rw [e0]
    have l1 := g1.le
    have z1 := g1.sz
    have l2 := g2.le
    have z2 := g2.sz
    simp only [List.length_append, List.length_set, List.length_cons, List.length_nil] at l1 z1 l2 z2
    have ecl : Row.cl (.iff e a b) = 1 + (rowsCl a + rowsCl b) := rfl
    refine ⟨by rw [List.length_set]; omega, fun i hi => ?_, fun i f hi ef => ?_, by rw [List.length_set, ecl]; omega⟩
    · rw [List.getElem?_set_ne (by omega), g2.old i (by simp; omega), List.getElem?_set_ne (by omega), List.getElem?_append_left (by omega), g1.old i (by simp; omega), List.getElem?_append_left hi]
    · by_cases q : i = c1.length
      · subst q
        rw [List.getElem?_set_self (by omega)] at ef
        cases (Option.some.inj ef)
        simp [FR.hd]
      · rw [List.getElem?_set_ne (by omega)] at ef
        by_cases q2 : i < c1.length + 1
        · rw [g2.old i (by simp; omega)] at ef
          by_cases q3 : i = c.length
          · subst q3
            rw [List.getElem?_set_self (by simp; omega)] at ef
            cases (Option.some.inj ef)
            simp [FR.hd]
          · rw [List.getElem?_set_ne (by omega), List.getElem?_append_left (by omega)] at ef
            exact g1.new i f (by simp; omega) ef
        · exact g2.new i f (by simp; omega) ef
  | .times e a, c => by
    have g1 := putRows_goes a (c ++ [FR.rounds e, FR.hole])
    generalize h1 : putRows a (c ++ [FR.rounds e, FR.hole]) = c1 at g1
    have e0 : putRow (.times e a) c = (c1 ++ [FR.on (c.length + 1)]).set (c.length + 1) (FR.round (c1.length + 1)) := by
      show ((putRows a (c ++ [FR.rounds e, FR.hole])) ++ [FR.on (c.length + 1)]).set (c.length + 1) (FR.round ((putRows a (c ++ [FR.rounds e, FR.hole])).length + 1)) = _
      rw [h1]
    rw [e0]
    have l1 := g1.le
    have z1 := g1.sz
    simp only [List.length_append, List.length_set, List.length_cons, List.length_nil] at l1 z1
    have ecl : Row.cl (.times e a) = 1 + rowsCl a := rfl
    refine ⟨by simp; omega, fun i hi => ?_, fun i f hi ef => ?_, by simp [ecl]; omega⟩
    · rw [List.getElem?_set_ne (by omega), List.getElem?_append_left (by omega), g1.old i (by simp; omega), List.getElem?_append_left hi]
    · by_cases q : i = c.length + 1
      · subst q
        rw [List.getElem?_set_self (by simp; omega)] at ef
        cases (Option.some.inj ef)
        simp [FR.hd]
      · rw [List.getElem?_set_ne (by omega)] at ef
        by_cases q2 : i < c1.length
        · rw [List.getElem?_append_left q2] at ef
          by_cases q3 : i = c.length
          · subst q3
            rw [g1.old _ (by simp), List.getElem?_append_right (Nat.le_refl _), Nat.sub_self] at ef
            cases (Option.some.inj ef)
            simp [FR.hd]
          · exact g1.new i f (by simp; omega) ef
        · rw [List.getElem?_append_right (by omega)] at ef
          cases q4 : i - c1.length with
          | zero =>
            rw [q4] at ef
            cases (Option.some.inj ef)
            simp [FR.hd]
          | succ m =>
            rw [q4] at ef
            simp at ef
theorem putRows_goes : ∀ (rs : List Row) (c : List FR), Goes c (putRows rs c) (3 * rowsCl rs)
  | [], c => ⟨Nat.le_refl _, fun _ _ => rfl, fun i f hi e => by
    have := (List.getElem?_eq_some_iff.mp e).1
    change i < c.length at this
    omega, Nat.le_add_right _ _⟩
  | r :: rs, c => by
    have g1 := putRow_goes r c
    have g2 := putRows_goes rs (putRow r c)
    have ecl : rowsCl (r :: rs) = r.cl + rowsCl rs := rfl
    have l1 := g1.le
    have z1 := g1.sz
    have l2 := g2.le
    have z2 := g2.sz
    refine ⟨by show c.length ≤ (putRows rs (putRow r c)).length; omega, fun i hi => ?_, fun i f hi e => ?_, by show (putRows rs (putRow r c)).length ≤ _; rw [ecl]; omega⟩
    · show (putRows rs (putRow r c))[i]? = _
      rw [g2.old i (by omega), g1.old i hi]
    · change (putRows rs (putRow r c))[i]? = some f at e
      by_cases q : i < (putRow r c).length
      · rw [g2.old i q] at e
        exact g1.new i f hi e
      · exact g2.new i f (by omega) e
end
theorem code_hd {rows : List Row} {f : FR} (h : f ∈ codeOf rows) : ∃ s, f.hd = some s := by
  have g := putRows_goes rows []
  have : f.hd ≠ none := by
    rcases List.mem_append.mp h with h | h
    · obtain ⟨i, hi, e⟩ := List.mem_iff_getElem.mp h
      exact g.new i f (Nat.zero_le _) (by rw [List.getElem?_eq_getElem hi, e])
    · rw [List.mem_singleton.mp h]
      simp [FR.hd]
  cases q : f.hd with
  | none => exact absurd q this
  | some s => exact ⟨s, rfl⟩
theorem code_len (rows : List Row) : (codeOf rows).length ≤ 3 * rowsCl rows + 1 := by
  have g := (putRows_goes rows []).sz
  simp [codeOf] at g ⊢
  omega

end M

set_option Elab.async false
set_option linter.all false
set_option maxRecDepth 100000
set_option maxHeartbeats 2000000
namespace M
open PySem PySem.Spec PyProof.Rows L2

theorem putRows_snoc : ∀ (as : List Row) (r : Row) (c : List FR), putRows (as ++ [r]) c = putRow r (putRows as c)
  | [], r, c => rfl
  | a :: as, r, c => putRows_snoc as r (putRow a c)
theorem frs_noL (c : List FR) : ∀ d ∈ c.map FR.d, NoL d := fun d h => by
  obtain ⟨f, _, rfl⟩ := List.mem_map.mp h
  exact f.noL
theorem rowsCl_take {rs : List Row} {i : Nat} {r : Row} (h : rs[i]? = some r) : rowsCl (rs.take i) + r.cl ≤ rowsCl rs := by
  rw [rowsCl_sum, rowsCl_sum, List.map_take]
  have e : ((rs.map Row.cl)[i]?) = some r.cl := by rw [List.getElem?_map, h]; rfl
  have := sumN_take e
  have := sumN_le (rs.map Row.cl) (i + 1)
  omega
theorem word_if {r : Row} (h : r.word = "if") : ∃ e a b, r = .iff e a b := by
  cases r with
  | read r c => exact absurd (show ("read" : Str) = "if" from h) (by decide +kernel)
  | set c e => exact absurd (show ("set" : Str) = "if" from h) (by decide +kernel)
  | swap r c e f => exact absurd (show ("swap" : Str) = "if" from h) (by decide +kernel)
  | keep r e => exact absurd (show ("keep" : Str) = "if" from h) (by decide +kernel)
  | coin r => exact absurd (show ("coin" : Str) = "if" from h) (by decide +kernel)
  | iff e a b => exact ⟨e, a, b, rfl⟩
  | times e a => exact absurd (show ("times" : Str) = "if" from h) (by decide +kernel)
  | ans e => exact absurd (show ("answer" : Str) = "if" from h) (by decide +kernel)
theorem putRow_plain {r : Row} (c : List FR) (h1 : r.word ≠ "if") (h2 : r.word ≠ "times") : putRow r c = c ++ [.row r] := by
  cases r <;> first | rfl | exact absurd rfl h1 | exact absurd rfl h2
section
variable {P : Program} {w : World} {K : PySem.W.Frag} {mg : Str → Option Value} {base : Heap}
/-- what put_rows and its kin leave: the list goes on -/
abbrev PutQ (K : PySem.W.Frag) (H : Hp) (l : Addr) (c' : List FR) (Q : VK) : Prop := ∀ H' ys', But l H H' → H' l = some (.lst ys') → DpAll K H' ys' (c'.map FR.d) → Q .non H'
def spPuts (K : PySem.W.Frag) : Nat → Sp
  | 0 => fun _ _ _ _ => False
  | n + 1 => fun vs H Q _ => ∃ (l : Addr) (v : V) (ys : List V) (c : List FR) (rs : List Row) (k : Int) (deep loops : Nat), vs = [.ref l, v] ∧ H l = some (.lst ys) ∧ DpAll K H ys (c.map FR.d) ∧ Dp K H v (.tuple (rowsD rs)) ∧ rowsOk k deep loops rs ∧ 14 ≤ deep + (n + 1) ∧ c.length + 3 * rowsCl rs ≤ 90000 ∧ PutQ K H l (putRows rs c) Q
def spPut1 (K : PySem.W.Frag) (n : Nat) (wd : Str) : Sp := fun vs H Q _ => ∃ (l : Addr) (v : V) (ys : List V) (c : List FR) (r : Row) (k : Int) (deep loops : Nat), vs = [.ref l, v] ∧ H l = some (.lst ys) ∧ DpAll K H ys (c.map FR.d) ∧ Dp K H v r.d ∧ r.word = wd ∧ (r.ok k deep loops ∧ deep ≤ 12) ∧ 14 ≤ deep + (n + 1) ∧ c.length + 3 * r.cl ≤ 90000 ∧ PutQ K H l (putRow r c) Q
theorem ca_put_if {n : Nat} (R : Ca P w K mg base (2 * n + 1) "put_rows" (spPuts K n)) (T : Txt w K mg) : Ca P w K mg base (2 * n + 2) "put_if" (spPut1 K n "if") := by
    refine ca_of (N := ["code", "row", "test", "over"]) (ps := ["code", "row"]) T.f_put_if T.g_put_if ⟨rfl, rfl, rfl, by decide +kernel, rfl, by decide +kernel, by decide +kernel⟩ (fun _ _ _ _ _ _ us hl => match us, hl with | [_, _], _ => rfl)
      (fun vs H Q E h => by obtain ⟨l, v, ys, c, r, k, deep, loops, rfl, hl, hys, hv, hw, ⟨ok, hd⟩, hn, hz, q⟩ := h; rfl) (fun cdv A outer s H vs Q E hr h => ?_)
    have nd : (["code", "row", "test", "over"] : List Str).Nodup := by decide +kernel
    obtain ⟨l, v, ys, c, r, k, deep, loops, rfl, hl, hys, hv, hw, ⟨ok, hd⟩, hn, hz, q⟩ := h
    obtain ⟨e, a, b, rfl⟩ := word_if hw
    obtain ⟨m, rfl⟩ : ∃ m, n = m + 1 := ⟨n - 1, by omega⟩
    have ok : e.good ∧ rowsOk k (deep + 1) loops a ∧ rowsOk k (deep + 1) loops b := ok
    have hz : c.length + 3 * (1 + (rowsCl a + rowsCl b)) ≤ 90000 := hz
    have nl : NoL (Row.iff e a b).d := Row.noL _
    obtain ⟨ra, xs, rfl, hra, hxs⟩ := dp_tup hv
    obtain ⟨x0, x1, x2, x3, rfl, h0, h1, h2, h3⟩ : ∃ x0 x1 x2 x3, xs = [x0, x1, x2, x3] ∧ Dp K H x0 (.str "if") ∧ Dp K H x1 e.d ∧ Dp K H x2 (.tuple (rowsD a)) ∧ Dp K H x3 (.tuple (rowsD b)) := by
      cases hxs with | cons h0 hr => cases hr with | cons h1 hr => cases hr with | cons h2 hr => cases hr with | cons h3 hr => cases hr with | nil => exact ⟨_, _, _, _, rfl, h0, h1, h2, h3⟩
    refine ⟨_, (pss_cons (ps_set (i := 2) nd rfl (.inl rfl) (pe_callB call_len_seq (by rfl) T.b_len PySem.boot_len (pa_cons (pv 0) pa_nil)))
      (pss_cons (ps_expr (pe_bm PySem.F.plainAttrs_list PySem.F.slot_list_append PySem.F.type_list_append mt_append (pv 0) (pa_cons (pe_tup pa_nil) pa_nil)))
      (pss_cons (ps_expr (pe_ca R hr (pa_cons (pv 0) (pa_cons (pe_ix ix_tup (pv 1) pe_int (fun _ _ => rfl)) pa_nil)) (by omega)))
      (pss_cons (ps_set (i := 3) nd rfl (.inl rfl) (pe_callB call_len_seq (by rfl) T.b_len PySem.boot_len (pa_cons (pv 0) pa_nil)))
      (pss_cons (ps_expr (pe_bm PySem.F.plainAttrs_list PySem.F.slot_list_append PySem.F.type_list_append mt_append (pv 0) (pa_cons (pe_tup pa_nil) pa_nil)))
      (pss_cons (ps_asg (pe_tup (pa_cons pe_str (pa_cons (pe_ix ix_tup (pv 1) pe_int (fun _ _ => rfl)) (pa_cons (pe_callB call_len_seq (by rfl) T.b_len PySem.boot_len (pa_cons (pv 0) pa_nil)) pa_nil)))) (pg_sub (pv 0) (pv 2) set_list))
      (pss_cons (ps_expr (pe_ca R hr (pa_cons (pv 0) (pa_cons (pe_ix ix_tup (pv 1) pe_int (fun _ _ => rfl)) pa_nil)) (by omega)))
      (pss_one (ps_asg (pe_tup (pa_cons pe_str (pa_cons (pe_callB call_len_seq (by rfl) T.b_len PySem.boot_len (pa_cons (pv 0) pa_nil)) pa_nil))) (pg_sub (pv 0) (pv 3) set_list)))))))))), ?_⟩
    have lys : ys.length = c.length := by rw [dps_len hys, List.length_map]
    have g1 := putRows_goes a (c ++ [FR.hole])
    have z1 := g1.sz
    simp only [List.length_append, List.length_cons, List.length_nil] at z1
    -- test = len(code); code.append(())
    refine ⟨_, rfl, _, _, rfl, .inl (.of hl), _, rfl, .inl ⟨rfl, _, .of hl⟩, (by show 0 ≤ sizeLine; exact Nat.zero_le _), fun t nt => ?_⟩
    have nlt : l ≠ t := ne_of_none hl nt
    have s1 : Same H (upd H t (.tup [])) := same_new nt
    refine ⟨l, ys, _, rfl, rfl, s1 _ _ hl, by rw [sizeLine_eq]; omega, ?_⟩
    -- put_rows(code, row[2])
    have b1 : But l H (upd (upd H t (.tup [])) l (.lst (ys ++ [.ref t]))) := (same_but s1).trans But.upd
    have ch : Ch H l := .lst hl
    have d1 : DpAll K (upd (upd H t (.tup [])) l (.lst (ys ++ [.ref t]))) (ys ++ [.ref t]) ((c ++ [FR.hole]).map FR.d) := by
      rw [List.map_append]
      exact dps_app (dps_but ch b1 hys (frs_noL c)) (.cons (.tup (SqT.of (by rw [upd_ne (Ne.symm nlt), upd_same])) .nil) .nil)
    refine ⟨_, rfl, _, rfl, _, _, _, _, rfl, rfl, sqT_but ch b1 hra, at2, l, x2, _, c ++ [FR.hole], a, k, deep + 1, loops, rfl, upd_same, d1, dp_but ch b1 h2 (.tup (rows_noL a)), ok.2.1, by omega, by simp; omega, fun H2 y2 b2 hl2 d2 => ?_⟩
    generalize ec1 : putRows a (c ++ [FR.hole]) = c1 at g1 z1 d2
    have l1 := g1.le
    simp only [List.length_append, List.length_cons, List.length_nil] at l1
    have ly2 : y2.length = c1.length := by rw [dps_len d2, List.length_map]
    have b02 : But l H H2 := b1.trans b2
    -- over = len(code); code.append(())
    refine ⟨_, rfl, _, _, rfl, .inl (.of hl2), _, rfl, .inl ⟨rfl, _, .of hl2⟩, (by show 0 ≤ sizeLine; exact Nat.zero_le _), fun t2 nt2 => ?_⟩
    have nlt2 : l ≠ t2 := ne_of_none hl2 nt2
    have s3 : Same H2 (upd H2 t2 (.tup [])) := same_new nt2
    refine ⟨l, y2, _, rfl, rfl, s3 _ _ hl2, by rw [sizeLine_eq]; omega, ?_⟩
    have b3 : But l H2 (upd (upd H2 t2 (.tup [])) l (.lst (y2 ++ [.ref t2]))) := (same_but s3).trans But.upd
    have ch2 : Ch H2 l := .lst hl2
    have d3 : DpAll K (upd (upd H2 t2 (.tup [])) l (.lst (y2 ++ [.ref t2]))) (y2 ++ [.ref t2]) ((c1 ++ [FR.hole]).map FR.d) := by
      rw [List.map_append]
      exact dps_app (dps_but ch2 b3 d2 (frs_noL c1)) (.cons (.tup (SqT.of (by rw [upd_ne (Ne.symm nlt2), upd_same])) .nil) .nil)
    have b03 := b02.trans b3
    generalize eH3 : upd (upd H2 t2 (.tup [])) l (.lst (y2 ++ [.ref t2])) = H3 at b3 d3 b03
    have hl3 : H3 l = some (.lst (y2 ++ [.ref t2])) := by rw [← eH3, upd_same]
    -- code[test] = ("unless", row[1], len(code))
    refine ⟨_, rfl, _, _, _, _, rfl, rfl, sqT_but ch b03 hra, at1, _, rfl, _, _, rfl, .inl (.of hl3), (by show 3 ≤ sizeLine; decide), fun t4 nt4 => ?_⟩
    have nlt4 : l ≠ t4 := ne_of_none hl3 nt4
    have s4 : Same H3 (upd H3 t4 (.tup [.str "unless", x1, .int ((y2 ++ [V.ref t2]).length : Nat)])) := same_new nt4
    refine ⟨_, rfl, _, rfl, l, _, _, c.length, rfl, rfl, s4 _ _ hl3, by rw [lys]; exact Evl.ixN_nat (by simp; omega), ?_⟩
    have ch3 : Ch H3 l := .lst hl3
    have b4 := (same_but s4 (D := l)).trans (But.upd (H := upd H3 t4 (.tup [.str "unless", x1, .int ((y2 ++ [V.ref t2]).length : Nat)])) (o := .lst ((y2 ++ [V.ref t2]).set c.length (V.ref t4))))
    have d4 : DpAll K (upd (upd H3 t4 (.tup [.str "unless", x1, .int ((y2 ++ [V.ref t2]).length : Nat)])) l (.lst ((y2 ++ [V.ref t2]).set c.length (V.ref t4)))) ((y2 ++ [V.ref t2]).set c.length (V.ref t4)) (((c1 ++ [FR.hole]).set c.length (FR.unless e (c1.length + 1))).map FR.d) := by
      rw [List.map_set]
      refine dps_set (dps_but ch3 b4 d3 (frs_noL _)) (.tup (SqT.of (by rw [upd_ne (Ne.symm nlt4), upd_same])) (.cons (.str _) (.cons (dp_but ch (b03.trans b4) h1 e.noL) (.cons ?_ .nil))))
      rw [show ((y2 ++ [V.ref t2]).length : Nat) = c1.length + 1 from by simp [ly2]]
      exact .int _
    have b04 := b03.trans b4
    -- put_rows(code, row[3])
    have g2 := putRows_goes b ((c1 ++ [FR.hole]).set c.length (FR.unless e (c1.length + 1)))
    have z2 := g2.sz
    simp only [List.length_append, List.length_set, List.length_cons, List.length_nil] at z2
    refine ⟨_, rfl, _, rfl, _, _, _, _, rfl, rfl, sqT_but ch b04 hra, at3, l, x3, _, (c1 ++ [FR.hole]).set c.length (FR.unless e (c1.length + 1)), b, k, deep + 1, loops, rfl, upd_same, d4, dp_but ch b04 h3 (.tup (rows_noL b)), ok.2.2, by omega, by simp; omega, fun H5 y5 b5 hl5 d5 => ?_⟩
    generalize ec2 : putRows b ((c1 ++ [FR.hole]).set c.length (FR.unless e (c1.length + 1))) = c2 at g2 z2 d5
    have l2 := g2.le
    simp only [List.length_append, List.length_set, List.length_cons, List.length_nil] at l2
    have ly5 : y5.length = c2.length := by rw [dps_len d5, List.length_map]
    have b05 := b04.trans b5
    -- code[over] = ("on", len(code))
    refine ⟨_, rfl, _, _, rfl, .inl (.of hl5), (by show 2 ≤ sizeLine; decide), fun t6 nt6 => ?_⟩
    have nlt6 : l ≠ t6 := ne_of_none hl5 nt6
    have s6 : Same H5 (upd H5 t6 (.tup [.str "on", .int (y5.length : Nat)])) := same_new nt6
    refine ⟨_, rfl, _, rfl, l, _, _, c1.length, rfl, rfl, s6 _ _ hl5, by rw [ly2]; exact Evl.ixN_nat (by omega), ?_⟩
    have b6 := (same_but s6 (D := l)).trans (But.upd (H := upd H5 t6 (.tup [.str "on", .int (y5.length : Nat)])) (o := .lst (y5.set c1.length (.ref t6))))
    refine q _ _ (b05.trans b6) upd_same ?_
    have e0 : putRow (.iff e a b) c = c2.set c1.length (FR.on c2.length) := by
      show (putRows b (((putRows a (c ++ [FR.hole])) ++ [FR.hole]).set c.length (FR.unless e ((putRows a (c ++ [FR.hole])).length + 1)))).set (putRows a (c ++ [FR.hole])).length (FR.on (putRows b (((putRows a (c ++ [FR.hole])) ++ [FR.hole]).set c.length (FR.unless e ((putRows a (c ++ [FR.hole])).length + 1)))).length) = _
      rw [ec1, ec2]
    rw [e0, List.map_set]
    refine dps_set (dps_but (.lst hl5) b6 d5 (frs_noL _)) (.tup (SqT.of (by rw [upd_ne (Ne.symm nlt6), upd_same])) (.cons (.str _) (.cons ?_ .nil)))
    rw [ly5]
    exact .int _
end

end M

set_option Elab.async false
set_option linter.all false
set_option maxRecDepth 100000
set_option maxHeartbeats 2000000
namespace M
open PySem PySem.Spec PyProof.Rows L2

section
variable {P : Program} {w : World} {K : PySem.W.Frag} {mg : Str → Option Value} {base : Heap}
theorem ca_put_times {n : Nat} (R : Ca P w K mg base (2 * n + 1) "put_rows" (spPuts K n)) (T : Txt w K mg) : Ca P w K mg base (2 * n + 2) "put_times" (spPut1 K n "times") := by
    refine ca_of (N := ["code", "row", "top"]) (ps := ["code", "row"]) T.f_put_times T.g_put_times ⟨rfl, rfl, rfl, by decide +kernel, rfl, by decide +kernel, by decide +kernel⟩ (fun _ _ _ _ _ _ us hl => match us, hl with | [_, _], _ => rfl)
      (fun vs H Q E h => by obtain ⟨l, v, ys, c, r, k, deep, loops, rfl, hl, hys, hv, hw, ⟨ok, hd⟩, hn, hz, q⟩ := h; rfl) (fun cdv A outer s H vs Q E hr h => ?_)
    have nd : (["code", "row", "top"] : List Str).Nodup := by decide +kernel
    obtain ⟨l, v, ys, c, r, k, deep, loops, rfl, hl, hys, hv, hw, ⟨ok, hd⟩, hn, hz, q⟩ := h
    obtain ⟨e, a, rfl⟩ := word_times hw
    obtain ⟨m, rfl⟩ : ∃ m, n = m + 1 := ⟨n - 1, by omega⟩
    have ok : e.good ∧ loops < 2 ∧ rowsOk k (deep + 1) (loops + 1) a := ok
    have hz : c.length + 3 * (1 + rowsCl a) ≤ 90000 := hz
    obtain ⟨ra, x0, x1, x2, rfl, hra, h0, h1, h2⟩ := dp3 hv
    refine ⟨_, (pss_cons (ps_expr (pe_bm PySem.F.plainAttrs_list PySem.F.slot_list_append PySem.F.type_list_append mt_append (pv 0) (pa_cons (pe_tup (pa_cons pe_str (pa_cons (pe_ix ix_tup (pv 1) pe_int (fun _ _ => rfl)) pa_nil))) pa_nil)))
      (pss_cons (ps_set (i := 2) nd rfl (.inl rfl) (pe_callB call_len_seq (by rfl) T.b_len PySem.boot_len (pa_cons (pv 0) pa_nil)))
      (pss_cons (ps_expr (pe_bm PySem.F.plainAttrs_list PySem.F.slot_list_append PySem.F.type_list_append mt_append (pv 0) (pa_cons (pe_tup pa_nil) pa_nil)))
      (pss_cons (ps_expr (pe_ca R hr (pa_cons (pv 0) (pa_cons (pe_ix ix_tup (pv 1) pe_int (fun _ _ => rfl)) pa_nil)) (by omega)))
      (pss_cons (ps_expr (pe_bm PySem.F.plainAttrs_list PySem.F.slot_list_append PySem.F.type_list_append mt_append (pv 0) (pa_cons (pe_tup (pa_cons pe_str (pa_cons (pv 2) pa_nil))) pa_nil)))
      (pss_one (ps_asg (pe_tup (pa_cons pe_str (pa_cons (pe_callB call_len_seq (by rfl) T.b_len PySem.boot_len (pa_cons (pv 0) pa_nil)) pa_nil))) (pg_sub (pv 0) (pv 2) set_list)))))))), ?_⟩
    have lys : ys.length = c.length := by rw [dps_len hys, List.length_map]
    have g1 := putRows_goes a (c ++ [FR.rounds e, FR.hole])
    have z1 := g1.sz
    simp only [List.length_append, List.length_cons, List.length_nil] at z1
    have ch : Ch H l := .lst hl
    -- code.append(("rounds", row[1]))
    refine ⟨_, rfl, .inl ⟨rfl, _, .of hl⟩, _, rfl, _, _, _, _, rfl, rfl, hra, at1, (by show 2 ≤ sizeLine; decide), fun t nt => ?_⟩
    have nlt : l ≠ t := ne_of_none hl nt
    have s1 : Same H (upd H t (.tup [.str "rounds", x1])) := same_new nt
    refine ⟨l, ys, _, rfl, rfl, s1 _ _ hl, by rw [sizeLine_eq]; omega, ?_⟩
    have b1 := (same_but s1 (D := l)).trans (But.upd (H := upd H t (.tup [.str "rounds", x1])) (o := .lst (ys ++ [V.ref t])))
    have d1 : DpAll K (upd (upd H t (.tup [.str "rounds", x1])) l (.lst (ys ++ [V.ref t]))) (ys ++ [V.ref t]) ((c ++ [FR.rounds e]).map FR.d) := by
      rw [List.map_append]
      exact dps_app (dps_but ch b1 hys (frs_noL c)) (.cons (.tup (SqT.of (by rw [upd_ne (Ne.symm nlt), upd_same])) (.cons (.str _) (.cons (dp_but ch b1 h1 e.noL) .nil))) .nil)
    generalize eH1 : upd (upd H t (.tup [.str "rounds", x1])) l (.lst (ys ++ [V.ref t])) = H1 at b1 d1
    have hl1 : H1 l = some (.lst (ys ++ [V.ref t])) := by rw [← eH1, upd_same]
    -- top = len(code); code.append(())
    refine ⟨_, rfl, _, _, rfl, .inl (.of hl1), _, rfl, .inl ⟨rfl, _, .of hl1⟩, (by show 0 ≤ sizeLine; exact Nat.zero_le _), fun t2 nt2 => ?_⟩
    have nlt2 : l ≠ t2 := ne_of_none hl1 nt2
    have s2 : Same H1 (upd H1 t2 (.tup [])) := same_new nt2
    refine ⟨l, _, _, rfl, rfl, s2 _ _ hl1, by rw [sizeLine_eq]; simp; omega, ?_⟩
    have b2 := (same_but s2 (D := l)).trans (But.upd (H := upd H1 t2 (.tup [])) (o := .lst (ys ++ [V.ref t] ++ [V.ref t2])))
    have d2 : DpAll K (upd (upd H1 t2 (.tup [])) l (.lst (ys ++ [V.ref t] ++ [V.ref t2]))) (ys ++ [V.ref t] ++ [V.ref t2]) ((c ++ [FR.rounds e, FR.hole]).map FR.d) := by
      rw [show c ++ [FR.rounds e, FR.hole] = (c ++ [FR.rounds e]) ++ [FR.hole] from by simp, List.map_append]
      exact dps_app (dps_but (.lst hl1) b2 d1 (frs_noL _)) (.cons (.tup (SqT.of (by rw [upd_ne (Ne.symm nlt2), upd_same])) .nil) .nil)
    have b02 := b1.trans b2
    -- put_rows(code, row[2])
    refine ⟨_, rfl, _, rfl, _, _, _, _, rfl, rfl, sqT_but ch b02 hra, at2, l, x2, _, c ++ [FR.rounds e, FR.hole], a, k, deep + 1, loops + 1, rfl, upd_same, d2, dp_but ch b02 h2 (.tup (rows_noL a)), ok.2.2, by omega, by simp; omega, fun H3 y3 b3 hl3 d3 => ?_⟩
    generalize ec1 : putRows a (c ++ [FR.rounds e, FR.hole]) = c1 at g1 z1 d3
    have l1 := g1.le
    simp only [List.length_append, List.length_cons, List.length_nil] at l1
    have ly3 : y3.length = c1.length := by rw [dps_len d3, List.length_map]
    have b03 := b02.trans b3
    -- code.append(("on", top))
    refine ⟨_, rfl, .inl ⟨rfl, _, .of hl3⟩, _, rfl, (by show 2 ≤ sizeLine; decide), fun t4 nt4 => ?_⟩
    have nlt4 : l ≠ t4 := ne_of_none hl3 nt4
    have s4 : Same H3 (upd H3 t4 (.tup [.str "on", .int ((ys ++ [V.ref t]).length : Nat)])) := same_new nt4
    refine ⟨l, y3, _, rfl, rfl, s4 _ _ hl3, by rw [sizeLine_eq]; omega, ?_⟩
    have b4 := (same_but s4 (D := l)).trans (But.upd (H := upd H3 t4 (.tup [.str "on", .int ((ys ++ [V.ref t]).length : Nat)])) (o := .lst (y3 ++ [V.ref t4])))
    have d4 : DpAll K (upd (upd H3 t4 (.tup [.str "on", .int ((ys ++ [V.ref t]).length : Nat)])) l (.lst (y3 ++ [V.ref t4]))) (y3 ++ [V.ref t4]) ((c1 ++ [FR.on (c.length + 1)]).map FR.d) := by
      rw [List.map_append]
      refine dps_app (dps_but (.lst hl3) b4 d3 (frs_noL _)) (.cons (.tup (SqT.of (by rw [upd_ne (Ne.symm nlt4), upd_same])) (.cons (.str _) (.cons ?_ .nil))) .nil)
      rw [show ((ys ++ [V.ref t]).length : Nat) = c.length + 1 from by simp [lys]]
      exact .int _
    generalize eH4 : upd (upd H3 t4 (.tup [.str "on", .int ((ys ++ [V.ref t]).length : Nat)])) l (.lst (y3 ++ [V.ref t4])) = H4 at b4 d4
    have hl4 : H4 l = some (.lst (y3 ++ [V.ref t4])) := by rw [← eH4, upd_same]
    have b04 := b03.trans b4
    -- code[top] = ("round", len(code))
    refine ⟨_, rfl, _, _, rfl, .inl (.of hl4), (by show 2 ≤ sizeLine; decide), fun t6 nt6 => ?_⟩
    have nlt6 : l ≠ t6 := ne_of_none hl4 nt6
    have s6 : Same H4 (upd H4 t6 (.tup [.str "round", .int ((y3 ++ [V.ref t4]).length : Nat)])) := same_new nt6
    refine ⟨_, rfl, _, rfl, l, _, _, c.length + 1, rfl, rfl, s6 _ _ hl4, by rw [show ((ys ++ [V.ref t]).length : Nat) = c.length + 1 from by simp [lys]]; exact Evl.ixN_nat (by simp; omega), ?_⟩
    have b6 := (same_but s6 (D := l)).trans (But.upd (H := upd H4 t6 (.tup [.str "round", .int ((y3 ++ [V.ref t4]).length : Nat)])) (o := .lst ((y3 ++ [V.ref t4]).set (c.length + 1) (V.ref t6))))
    refine q _ _ (b04.trans b6) upd_same ?_
    have e0 : putRow (.times e a) c = (c1 ++ [FR.on (c.length + 1)]).set (c.length + 1) (FR.round (c1.length + 1)) := by
      show ((putRows a (c ++ [FR.rounds e, FR.hole])) ++ [FR.on (c.length + 1)]).set (c.length + 1) (FR.round ((putRows a (c ++ [FR.rounds e, FR.hole])).length + 1)) = _
      rw [ec1]
    rw [e0, List.map_set]
    refine dps_set (dps_but (.lst hl4) b6 d4 (frs_noL _)) (.tup (SqT.of (by rw [upd_ne (Ne.symm nlt6), upd_same])) (.cons (.str _) (.cons ?_ .nil)))
    rw [show ((y3 ++ [V.ref t4]).length : Nat) = c1.length + 1 from by simp [ly3]]
    exact .int _
theorem ca_put_rows1 {n : Nat} (RI : Ca P w K mg base (2 * n + 2) "put_if" (spPut1 K n "if")) (RT : Ca P w K mg base (2 * n + 2) "put_times" (spPut1 K n "times")) (T : Txt w K mg) : Ca P w K mg base (2 * n + 3) "put_rows" (spPuts K (n + 1)) := by
    refine ca_of (N := ["code", "rows", "row"]) (ps := ["code", "rows"]) T.f_put_rows T.g_put_rows ⟨rfl, rfl, rfl, by decide +kernel, rfl, by decide +kernel, by decide +kernel⟩ (fun _ _ _ _ _ _ us hl => match us, hl with | [_, _], _ => rfl)
      (fun vs H Q E h => by obtain ⟨l, v, ys, c, rs, k, deep, loops, rfl, hl, hys, hv, ok, hn, hz, q⟩ := h; rfl) (fun cdv A outer s H vs Q E hr h => ?_)
    have nd : (["code", "rows", "row"] : List Str).Nodup := by decide +kernel
    obtain ⟨l, v, ys, c, rs, k, deep, loops, rfl, hl, hys, hv, ok, hn, hz, q⟩ := h
    obtain ⟨a, xs, rfl, ha, hxs⟩ := dp_tup hv
    have lxs : xs.length = rs.length := by rw [dps_len hxs, rowsD_map, List.length_map]
    refine ⟨_, (pss_one (ps_for PassesOwn.never rfl (pi_tup (pv 1)) (pg_name (i := 2) nd rfl (.inl rfl)) (pss_one (ps_if (pt_cmpR op_eq (pe_ix ix_tup (pv 2) pe_int (fun _ _ => rfl)) pe_str (nomark _)) (pss_one (ps_expr (pe_ca RI hr (pa_cons (pv 0) (pa_cons (pv 2) pa_nil)) (by omega)))) (pss_one (ps_if (pt_cmpR op_eq (pe_ix ix_tup (pv 2) pe_int (fun _ _ => rfl)) pe_str (nomark _)) (pss_one (ps_expr (pe_ca RT hr (pa_cons (pv 0) (pa_cons (pv 2) pa_nil)) (by omega)))) (pss_one (ps_expr (pe_bm PySem.F.plainAttrs_list PySem.F.slot_list_append PySem.F.type_list_append mt_append (pv 0) (pa_cons (pv 2) pa_nil)))))))))), ?_⟩
    have ch : Ch H l := .lst hl
    refine ⟨_, rfl, a, rfl, ⟨_, ha⟩, for_tup (xs := xs) (fun i σ' H' => ∃ x y', σ' = [some (.ref l), some (.ref a), x] ∧ But l H H' ∧ H' l = some (.lst y') ∧ DpAll K H' y' ((putRows (rs.take i) c).map FR.d)) ⟨none, ys, rfl, fun b o _ z => z, hl, hys⟩ (fun i σ' H' _ ⟨_, _, _, bt, _⟩ => sqT_but ch bt ha) ?_ ?_⟩
    · rintro i x σ' H' hx ⟨_, y', rfl, bt, hl', hy'⟩
      obtain ⟨dd, hdd, hxd⟩ := dps_get hxs hx
      rw [rowsD_map] at hdd
      obtain ⟨r, hr', rfl⟩ := get_mapA hdd
      have okr := rowsOkAt ok r (List.mem_of_getElem? hr')
      have szt := rowsCl_take hr'
      have gz := (putRows_goes (rs.take i) c).sz
      have ly' : y'.length = (putRows (rs.take i) c).length := by rw [dps_len hy', List.length_map]
      have hx2 : Dp K H' x r.d := dp_but ch bt hxd r.noL
      have r1 : 1 ≤ r.cl := by rw [row_cl]; omega
      have nxt : ∀ H3 y3, But l H' H3 → H3 l = some (.lst y3) → DpAll K H3 y3 ((putRow r (putRows (rs.take i) c)).map FR.d) → ∃ x' y', [some (.ref l), some (.ref a), some x] = [some (.ref l), some (.ref a), x'] ∧ But l H H3 ∧ H3 l = some (.lst y') ∧ DpAll K H3 y' ((putRows (rs.take (i + 1)) c).map FR.d) := fun H3 y3 b3 h3 d3 => ⟨_, y3, rfl, bt.trans b3, h3, by rw [take_more hr', putRows_snoc]; exact d3⟩
      have hv' := hx2
      rw [row_d] at hx2
      obtain ⟨ra, zs, rfl, hra, hzs⟩ := dp_tup hx2
      obtain ⟨z0, zr, rfl, h0, hzr⟩ : ∃ y ys, zs = y :: ys ∧ Dp K H' y (.str r.word) ∧ DpAll K H' ys (r.prts.map Prt.d) := by
        cases hzs with | cons h1 h2 => exact ⟨_, _, rfl, h1, h2⟩
      cases dp_str h0
      refine ⟨_, rfl, _, _, _, _, rfl, rfl, hra, at0, rfl, _, rfl, ?_⟩
      by_cases e1 : r.word = "if"
      · rw [e1]
        exact iteT ⟨_, rfl, _, rfl, l, _, y', _, r, k, deep, loops, rfl, hl', hy', hv', e1, ⟨okr.2, okr.1⟩, hn, by omega, fun H3 y3 b3 h3 d3 => nxt H3 y3 b3 h3 d3⟩
      · rw [decide_eq_false (show ¬ V.str r.word = V.str "if" from fun z => e1 (V.str.inj z))]
        refine iteF ⟨_, rfl, _, _, _, _, rfl, rfl, hra, at0, rfl, _, rfl, ?_⟩
        by_cases e2 : r.word = "times"
        · rw [e2]
          exact iteT ⟨_, rfl, _, rfl, l, _, y', _, r, k, deep, loops, rfl, hl', hy', hv', e2, ⟨okr.2, okr.1⟩, hn, by omega, fun H3 y3 b3 h3 d3 => nxt H3 y3 b3 h3 d3⟩
        · rw [decide_eq_false (show ¬ V.str r.word = V.str "times" from fun z => e2 (V.str.inj z))]
          refine iteF ⟨_, rfl, .inl ⟨rfl, _, .of hl'⟩, _, rfl, l, y', _, rfl, rfl, hl', by rw [sizeLine_eq]; omega, ?_⟩
          refine nxt _ _ But.upd upd_same ?_
          rw [putRow_plain _ e1 e2, List.map_append]
          exact dps_app (dps_but (.lst hl') But.upd hy' (frs_noL _)) (.cons (dp_but (.lst hl') But.upd hv' r.noL) .nil)
    · rintro σ' H' ⟨_, y', rfl, bt, hl', hy'⟩
      rw [lxs, List.take_length] at hy'
      exact q H' y' bt hl' hy'
theorem ca_put_rows (T : Txt w K mg) : ∀ n, Ca P w K mg base (2 * n + 1) "put_rows" (spPuts K n)
  | 0 => ca_false (ps := ["code", "rows"]) T.f_put_rows T.g_put_rows (fun _ _ _ _ _ _ us hl => match us, hl with | [_, _], _ => rfl)
  | n + 1 => ca_put_rows1 (ca_put_if (ca_put_rows T n) T) (ca_put_times (ca_put_rows T n) T) T
def spCode (K : PySem.W.Frag) : Sp := fun vs H Q _ => ∃ (v : V) (rs : List Row) (k : Int), vs = [v] ∧ Dp K H v (.tuple (rowsD rs)) ∧ rowsOk k 1 0 rs ∧ rowsCl rs ≤ 2000 ∧ ∀ H' u, Same H H' → Dp K H' u (codeD rs) → Q u H'
theorem ca_code_of (T : Txt w K mg) : Ca P w K mg base 30 "code_of" (spCode K) := by
  refine ca_of (N := ["body", "code"]) (ps := ["body"]) T.f_code_of T.g_code_of ⟨rfl, rfl, rfl, by decide +kernel, rfl, by decide +kernel, by decide +kernel⟩ (fun _ _ _ _ _ _ us hl => match us, hl with | [_], _ => rfl)
    (fun vs H Q E h => by obtain ⟨v, rs, k, rfl, hv, ok, hc, q⟩ := h; rfl) (fun cdv A outer s H vs Q E hr h => ?_)
  have nd : (["body", "code"] : List Str).Nodup := by decide +kernel
  obtain ⟨v, rs, k, rfl, hv, ok, hc, q⟩ := h
  refine ⟨_, (pss_cons (ps_set (i := 1) nd rfl (.inl rfl) (pe_lst pa_nil))
      (pss_cons (ps_expr (pe_ca (ca_put_rows T 13) hr (pa_cons (pv 1) (pa_cons (pv 0) pa_nil))))
      (pss_cons (ps_expr (pe_bm PySem.F.plainAttrs_list PySem.F.slot_list_append PySem.F.type_list_append mt_append (pv 1) (pa_cons (pe_tup (pa_cons pe_str (pa_cons pe_int pa_nil))) pa_nil)))
      (pss_one (ps_ret (pe_tupleOf (by rfl) T.b_tuple (pv 1))))))), ?_⟩
  refine ⟨(by show 0 ≤ sizeLine; exact Nat.zero_le _), fun l nl => ?_⟩
  have s0 : Same H (upd H l (.lst [])) := same_new nl
  refine ⟨_, rfl, _, rfl, l, v, [], [], rs, k, 1, 0, rfl, upd_same, .nil, dp_same s0 hv, ok, (by decide), by simp; omega, fun H1 y1 b1 h1 d1 => ?_⟩
  have gz := (putRows_goes rs []).sz
  have ly : y1.length = (putRows rs []).length := by rw [dps_len d1, List.length_map]
  refine ⟨_, rfl, .inl ⟨rfl, _, .of h1⟩, (by show 2 ≤ sizeLine; decide), fun t nt => ?_⟩
  have nlt : l ≠ t := ne_of_none h1 nt
  have s1 : Same H1 (upd H1 t (.tup [.str "answer", .int 0])) := same_new nt
  refine ⟨l, y1, _, rfl, rfl, s1 _ _ h1, by rw [sizeLine_eq]; simp at gz; omega, ?_⟩
  have b2 := (same_but s1 (D := l)).trans (But.upd (H := upd H1 t (.tup [.str "answer", .int 0])) (o := .lst (y1 ++ [V.ref t])))
  have d2 : DpAll K (upd (upd H1 t (.tup [.str "answer", .int 0])) l (.lst (y1 ++ [V.ref t]))) (y1 ++ [V.ref t]) ((codeOf rs).map FR.d) := by
    show DpAll _ _ _ ((putRows rs [] ++ [FR.row (.ans (.num 0))]).map FR.d)
    rw [List.map_append]
    exact dps_app (dps_but (.lst h1) b2 d1 (frs_noL _)) (.cons (.tup (SqT.of (by rw [upd_ne (Ne.symm nlt), upd_same])) (.cons (.str _) (.cons (.int 0) .nil))) .nil)
  refine ⟨_, rfl, .inl ⟨l, _, rfl, .of upd_same, fun p np => ?_⟩⟩
  have s3 := same_new (o := .tup (y1 ++ [V.ref t])) np
  refine q _ _ (fun b o e => ?_) (.tup (SqT.of upd_same) (dps_same s3 d2))
  refine s3 b o ?_
  have hb := ne_of_none e nl
  exact b2 b o hb (b1 b o hb (s0 b o e))
end

end M

set_option Elab.async false
set_option linter.all false
set_option maxRecDepth 100000
set_option maxHeartbeats 2000000
namespace M
open PySem PySem.Spec PyProof.Rows L2

theorem upd_id {H : Hp} {d : Addr} {u : HO} (h : H d = some u) : upd H d u = H := by
  funext b
  by_cases e : b = d
  · rw [e, upd_same, h]
  · rw [upd_ne e]
theorem codes_but {K : PySem.W.Frag} {H H' : Hp} {D : Addr} (hD : Ch H D) (s : But D H H') : ∀ {kvs : List (Key × V)} {ds : List (Str × Int × List Row)}, CodesR K H kvs ds → CodesR K H' kvs ds
  | [], [], _ => trivial
  | (_, _) :: _, _ :: _, h => ⟨h.1, dp_but hD s h.2.1 (code_noL _), codes_but hD s h.2.2⟩
  | [], _ :: _, h => h.elim
  | _ :: _, [], h => h.elim
theorem codes_at {K : PySem.W.Frag} {H : Hp} : ∀ {kvs : List (Key × V)} {ds : List (Str × Int × List Row)} {i : Nat} {p : Key × V}, CodesR K H kvs ds → kvs[i]? = some p → ∃ d, ds[i]? = some d ∧ p.1 = Sum.inr d.1 ∧ Dp K H p.2 (codeD d.2.2)
  | [], [], i, p, _, e => by simp at e
  | (k, v) :: r, d :: ds, 0, p, h, e => by
    cases (Option.some.inj e)
    exact ⟨d, rfl, h.1, h.2.1⟩
  | (k, v) :: r, d :: ds, i + 1, p, h, e => codes_at (i := i) h.2.2 e
  | [], _ :: _, _, _, h, _ => h.elim
  | _ :: _, [], _, _, h, _ => h.elim
theorem codes_len {K : PySem.W.Frag} {H : Hp} : ∀ {kvs : List (Key × V)} {ds : List (Str × Int × List Row)}, CodesR K H kvs ds → kvs.length = ds.length
  | [], [], _ => rfl
  | (_, _) :: _, _ :: _, h => congrArg (· + 1) (codes_len h.2.2)
  | [], _ :: _, h => h.elim
  | _ :: _, [], h => h.elim
theorem codes_snoc {K : PySem.W.Frag} {H : Hp} {v : V} {d : Str × Int × List Row} (hv : Dp K H v (codeD d.2.2)) : ∀ {kvs : List (Key × V)} {ds : List (Str × Int × List Row)}, CodesR K H kvs ds → CodesR K H (kvs ++ [(Sum.inr d.1, v)]) (ds ++ [d])
  | [], [], _ => ⟨rfl, hv, trivial⟩
  | (_, _) :: _, _ :: _, h => ⟨h.1, h.2.1, codes_snoc hv h.2.2⟩
  | [], _ :: _, h => h.elim
  | _ :: _, [], h => h.elim
theorem codes_no {K : PySem.W.Frag} {H : Hp} {s : Str} : ∀ {kvs : List (Key × V)} {ds : List (Str × Int × List Row)}, CodesR K H kvs ds → s ∉ ds.map (·.1) → valV kvs (Sum.inr s : Key) = none
  | [], [], _, _ => rfl
  | (k, v) :: r, d :: ds, h, n => by
    obtain ⟨rfl, _, hr⟩ := h
    rw [List.map_cons, List.mem_cons, not_or] at n
    have := codes_no hr n.2
    unfold valV at this ⊢
    rw [List.find?_cons_of_neg (by simp; exact fun e => n.1 e.symm)]
    exact this
  | [], _ :: _, h, _ => h.elim
  | _ :: _, [], h, _ => h.elim
/-- whether a row with this word stands in one of the codes -/
def hasW (ds : List (Str × Int × List Row)) (s : Str) : Bool := ds.any fun d => (codeOf d.2.2).any fun f => decide (f.hd = some s)
section
variable {P : Program} {w : World} {K : PySem.W.Frag} {mg : Str → Option Value} {base : Heap}
def spHasRow (K : PySem.W.Frag) : Sp := fun vs H Q _ => ∃ (d : Addr) (kvs : List (Key × V)) (ds : List (Str × Int × List Row)) (s : Str), vs = [.ref d, .str s] ∧ H d = some (.dK kvs) ∧ CodesR K H kvs ds ∧ Q (.bl (hasW ds s)) H
theorem ca_has_row (T : Txt w K mg) : Ca P w K mg base 1 "has_row" (spHasRow K) := by
  refine ca_of (N := ["codes", "word", "code", "row"]) (ps := ["codes", "word"]) T.f_has_row T.g_has_row ⟨rfl, rfl, rfl, by decide +kernel, rfl, by decide +kernel, by decide +kernel⟩ (fun _ _ _ _ _ _ us hl => match us, hl with | [_, _], _ => rfl)
    (fun vs H Q E h => by obtain ⟨d, kvs, ds, s, rfl, hd, hc, q⟩ := h; rfl) (fun cdv A outer s H vs Q E hr h => ?_)
  have nd : (["codes", "word", "code", "row"] : List Str).Nodup := by decide +kernel
  obtain ⟨d, kvs, ds, s, rfl, hd, hc, q⟩ := h
  refine ⟨_, pss_cons (ps_lock (ps_for PassesOwn.never rfl (pi_values (pv 0)) (pg_name (i := 2) nd rfl (.inl rfl))
    (pss_one (ps_for PassesOwn.never rfl (pi_tup (pv 2)) (pg_name (i := 3) nd rfl (.inl rfl)) (pss_one (ps_if (pt_cmpR op_eq (pe_ix ix_tup (pv 3) pe_int (fun _ _ => rfl)) (pv 1) (nomark _)) (pss_one (ps_ret pe_bl)) pss_nil))))))
    (pss_one (ps_ret pe_bl)), ?_⟩
  refine ⟨d, _, hd, True.intro, fun od => ?_⟩
  have ch : Ch H d := .dK hd
  have hcf : CodesR K (upd H d (.frz od (.dK kvs))) kvs ds := codes_but ch But.upd hc
  have back : upd (upd H d (.frz od (.dK kvs))) d (.dK kvs) = H := by rw [upd_upd, upd_id hd]
  have ret : ∀ b, b = hasW ds s → Q (.bl b) (upd (upd H d (.frz od (.dK kvs))) d (.dK kvs)) := fun b e => by rw [back, e]; exact q
  refine ⟨_, rfl, d, od, kvs, rfl, upd_same, for_it (n := kvs.length) walk_values (fun i σ' H' => ∃ x y, σ' = [some (.ref d), some (.str s), x, y] ∧ H' = upd H d (.frz od (.dK kvs)) ∧ hasW (ds.take i) s = false) ⟨none, none, rfl, rfl, rfl⟩ (fun i σ' H' _ ⟨_, _, _, e, _⟩ => by rw [e, upd_same]) ?_ ?_⟩
  · rintro i x σ' H' H2 hi ⟨_, _, rfl, rfl, hw⟩ ⟨rfl, k, hk⟩
    obtain ⟨dd, hdd, _, hcode⟩ := codes_at hcf hk
    obtain ⟨ra, xs, e0, hra, hxs⟩ := dp_tup hcode
    have e0 : x = .ref ra := e0
    subst e0
    have hin : dd ∈ ds := List.mem_of_getElem? hdd
    refine ⟨_, rfl, ra, rfl, ⟨_, hra⟩, for_tup (xs := xs) (fun j σ' H' => ∃ y, σ' = [some (.ref d), some (.str s), some (.ref ra), y] ∧ H' = upd H d (.frz od (.dK kvs)) ∧ ((codeOf dd.2.2).take j).any (fun f => decide (f.hd = some s)) = false) ⟨_, rfl, rfl, rfl⟩ (fun j σ' H' _ ⟨_, _, e, _⟩ => by rw [e]; exact hra) ?_ ?_⟩
    · rintro j y σ' H' hy ⟨_, rfl, rfl, hf⟩
      obtain ⟨de, hde, hyd⟩ := dps_get hxs hy
      obtain ⟨f, hf', rfl⟩ := get_mapA hde
      obtain ⟨wd, hwd⟩ := code_hd (List.mem_of_getElem? hf')
      rw [fr_d hwd] at hyd
      obtain ⟨rb, zs, rfl, hrb, hzs⟩ := dp_tup hyd
      obtain ⟨z0, zr, rfl, hz0⟩ : ∃ z0 zr, zs = z0 :: zr ∧ Dp K (upd H d (.frz od (.dK kvs))) z0 (.str wd) := by
        cases hzs with | cons h1 h2 => exact ⟨_, _, rfl, h1⟩
      cases dp_str hz0
      refine ⟨_, rfl, _, _, _, _, rfl, rfl, hrb, at0, _, rfl, rfl, _, rfl, ?_⟩
      by_cases e : wd = s
      · rw [decide_eq_true (show V.str wd = V.str s from congrArg V.str e)]
        refine iteT ⟨upd_same, ret _ ?_⟩
        refine (List.any_eq_true.mpr ⟨dd, hin, List.any_eq_true.mpr ⟨f, List.mem_of_getElem? hf', ?_⟩⟩).symm
        rw [hwd, e]
        exact decide_eq_true rfl
      · rw [decide_eq_false (show ¬ V.str wd = V.str s from fun z => e (V.str.inj z))]
        refine iteF ⟨_, rfl, rfl, ?_⟩
        rw [take_more hf', List.any_append, hf]
        simp [hwd, e]
    · rintro σ' H' ⟨_, rfl, rfl, hf⟩
      refine ⟨_, _, rfl, rfl, ?_⟩
      have lx : xs.length = (codeOf dd.2.2).length := by rw [dps_len hxs, List.length_map]
      rw [lx, List.take_length] at hf
      rw [take_more hdd]
      unfold hasW at hw ⊢
      rw [List.any_append, hw]
      simp [hf]
  · rintro σ' H' ⟨_, _, rfl, rfl, hw⟩
    rw [codes_len hc, List.take_length] at hw
    exact ⟨upd_same, ret _ hw.symm⟩
end

end M

set_option Elab.async false
set_option linter.all false
set_option maxRecDepth 100000
set_option maxHeartbeats 2000000
namespace M
open PySem PySem.Spec PyProof.Rows L2

/-- what stands at D is no list -/
def NoLst (H : Hp) (D : Addr) : Prop := (∀ xs, H D ≠ some (.lst xs)) ∧ ∀ o u, H D ≠ some (.frz o u)
theorem NoLst.ins {H : Hp} {D C dx : Addr} {l : List (Str × V)} (h : H D = some (.ins C dx l)) : NoLst H D := ⟨fun _ e => (by rw [h] at e; cases e), fun _ _ e => (by rw [h] at e; cases e)⟩
theorem NoLst.dT {H : Hp} {D : Addr} {l : List (List Key × V)} (h : H D = some (.dT l)) : NoLst H D := ⟨fun _ e => (by rw [h] at e; cases e), fun _ _ e => (by rw [h] at e; cases e)⟩
theorem NoLst.dK {H : Hp} {D : Addr} {l : List (Key × V)} (h : H D = some (.dK l)) : NoLst H D := ⟨fun _ e => (by rw [h] at e; cases e), fun _ _ e => (by rw [h] at e; cases e)⟩
theorem sqL_but {K : PySem.W.Frag} {H H' : Hp} {D : Addr} (hD : NoLst H D) (s : But D H H') {a : Addr} {xs : List V} (h : SqL K H a xs) : SqL K H' a xs := by
  rcases h with (h | ⟨o, h⟩) | h
  · exact .inl (.inl (s _ _ (fun e => hD.1 _ (e ▸ h)) h))
  · exact .inl (.inr ⟨o, s _ _ (fun e => hD.2 _ _ (e ▸ h)) h⟩)
  · exact .inr h
theorem cells_but {K : PySem.W.Frag} {H H' : Hp} {D : Addr} (hD : Ch H D) (s : But D H H') {xs : List V} {cs : List (Int × Int)} (h : DpAll K H xs (cs.map cellD)) : DpAll K H' xs (cs.map cellD) :=
  dps_but hD s h fun d hd => by
    obtain ⟨c, _, rfl⟩ := List.mem_map.mp hd
    exact cell_noL c
theorem deeds_but {K : PySem.W.Frag} {H H' : Hp} {D : Addr} (hD : Ch H D) (s : But D H H') {xs : List V} {cs : List (Str × Int × List Row)} (h : DpAll K H xs (cs.map deedD)) : DpAll K H' xs (cs.map deedD) :=
  dps_but hD s h fun d hd => by
    obtain ⟨c, _, rfl⟩ := List.mem_map.mp hd
    exact deed_noL c
theorem vf_codes0 (a d c : Addr) : (putF "_codes" (V.ref c) (putF "_deeds" (.ref d) (putF "_cells" (.ref a) []))).lookup ("_codes" : Str) = some (.ref c) := by
  rw [lookup_putF, if_pos rfl]
section
variable {P : Program} {w : World} {K : PySem.W.Frag} {mg : Str → Option Value} {base : Heap}
def spVault (K : PySem.W.Frag) : Sp := fun vs H Q _ => ∃ (p dx a b : Addr) (xs ys : List V) (v : Vlt), vs = [.ref p, .ref a, .ref b] ∧ H p = some (.ins (He.ga K "Vault") dx []) ∧ SqL K H a xs ∧ DpAll K H xs (v.cells.map cellD) ∧ SqL K H b ys ∧ DpAll K H ys (v.deeds.map deedD) ∧ VGood v ∧ ∀ H', But p H H' → VaultAt K H' p v → Q .non H'
theorem ma_Vault (T : Txt w K mg) : Ma P w K mg base 53 "Vault" (He.ga K "Vault") (spVault K) := by
  refine ma_of (N := ["self", "cells", "deeds", "name", "_", "body"]) (ps := ["self", "cells", "deeds"]) T.f_Vault_init T.g_Vault T.k_Vault ⟨rfl, rfl, rfl, by decide +kernel, rfl, by decide +kernel, by decide +kernel⟩ (fun _ _ _ _ _ _ us hl => match us, hl with | [_, _, _], _ => rfl)
    (fun vs H Q E h => by obtain ⟨p, dx, a, b, xs, ys, v, rfl, hp, ha, hxs, hb, hys, g, q⟩ := h; rfl) (fun cdv A outer s H vs Q E hr h => ?_)
  have nd : (["self", "cells", "deeds", "name", "_", "body"] : List Str).Nodup := by decide +kernel
  obtain ⟨p, dx, a, b, xs, ys, v, rfl, hp, ha, hxs, hb, hys, g, q⟩ := h
  refine ⟨_, (pss_cons (ps_if (PW.pt (pw_or (pt_not (pt_val (pe_is .list T.b_isinstance (pv 1) T.b_list boot_list))) (pw_or1 (pt_not (pt_val (pe_ca (ca_are_cells T) hr (pa_cons (pv 1) pa_nil))))))) (pss_one ps_never) pss_nil)
      (pss_cons (ps_if (PW.pt (pw_or (pt_not (pt_val (pe_is .list T.b_isinstance (pv 2) T.b_list boot_list))) (pw_or1 (pt_not (pt_val (pe_ca (ca_are_deeds T) hr (pa_cons (pv 2) (pa_cons (pe_callB call_len_seq (by rfl) T.b_len PySem.boot_len (pa_cons (pv 1) pa_nil)) pa_nil)))))))) (pss_one ps_never) pss_nil)
      (pss_cons (ps_fld (pv 0) (pe_tupleOf (by rfl) T.b_tuple (pv 1)) rfl)
      (pss_cons (ps_fld (pv 0) (pe_tupleOf (by rfl) T.b_tuple (pv 2)) rfl)
      (pss_cons (ps_fld (pv 0) (pe_dc (own := [("name", 3), ("_", 4), ("body", 5)]) (tt := tYes) rfl nd (pi_list (pv 2)) (blkOk_by (N := ["self", "cells", "deeds", "name", "_", "body"]) (sc := defScope s_Vault_init) (by decide +kernel)) (fun _ _ _ _ _ => pg_three K 3 4 5 rfl rfl nd rfl rfl rfl (.inl rfl) (.inl rfl) (.inl rfl) (.inr rfl) (.inr rfl) (.inr rfl)) (fun _ _ _ _ _ => pts_nil) (fun _ _ _ _ _ => pv 3) (fun _ _ _ _ _ => pe_ca (ca_code_of T) hr (pa_cons (pv 5) pa_nil))) rfl)
      (pss_one (ps_fld (pv 0) (pe_ca (ca_has_row T) hr (pa_cons (pe_fld (pv 0) rfl) (pa_cons pe_str pa_nil))) rfl))))))), ?_⟩
  refine ⟨_, rfl, _, _, rfl, .list ha, _, rfl, iteF ?_⟩
  refine ⟨_, rfl, a, xs, v.cells, rfl, ha, hxs, g.c0, g.c1, g.cs, _, rfl, iteF ?_⟩
  refine ⟨_, rfl, _, _, rfl, .list hb, _, rfl, iteF ?_⟩
  have lx : xs.length = v.cells.length := by rw [dps_len hxs, List.length_map]
  have ly : ys.length = v.deeds.length := by rw [dps_len hys, List.length_map]
  refine ⟨_, rfl, _, rfl, _, _, rfl, .inl ha, b, ys, v.deeds, v.cells.length, by rw [lx]; rfl, hb, hys, g.d0, g.d1, g.ds, g.nd, fun H1 s1 => ⟨_, rfl, iteF ?_⟩⟩
  refine ⟨_, rfl, .inl ⟨a, xs, rfl, s1.seq ha, fun t1 nt1 => ?_⟩⟩
  have hp1 := s1 _ _ hp
  have nt1p : t1 ≠ p := fun e => by rw [e, hp1] at nt1; cases nt1
  have s2 : Same H (upd H1 t1 (.tup xs)) := s1.trans (same_new nt1)
  refine ⟨_, rfl, p, _, dx, _, rfl, s2 _ _ hp, T.c_Vault, T.n_Vault_cells, (by show 0 < 1000; decide), ?_⟩
  have np2 : NoLst (upd H1 t1 (.tup xs)) p := .ins (s2 _ _ hp)
  have cp2 : Ch (upd H1 t1 (.tup xs)) p := .ins (s2 _ _ hp)
  generalize eH2 : upd H1 t1 (.tup xs) = H2 at s2 np2 cp2
  have at2 : H2 t1 = some (.tup xs) := by rw [← eH2, upd_same]
  generalize eH3 : upd H2 p (.ins (He.ga K "Vault") dx (putF "_cells" (.ref t1) [])) = H3
  have b3 : But p H2 H3 := eH3 ▸ But.upd
  have hp3 : H3 p = some (.ins (He.ga K "Vault") dx (putF "_cells" (.ref t1) [])) := by rw [← eH3, upd_same]
  have hb3 : SqL K H3 b ys := sqL_but np2 b3 (s2.seq hb)
  refine ⟨_, rfl, .inl ⟨b, ys, rfl, hb3, fun t2 nt2 => ?_⟩⟩
  have s4 : Same H3 (upd H3 t2 (.tup ys)) := same_new nt2
  refine ⟨_, rfl, p, _, dx, _, rfl, s4 _ _ hp3, T.c_Vault, T.n_Vault_deeds, (by show 1 < 1000; decide), ?_⟩
  generalize eH4 : upd H3 t2 (.tup ys) = H4 at s4
  have at4 : H4 t2 = some (.tup ys) := by rw [← eH4, upd_same]
  have hp4 := s4 _ _ hp3
  have np4 : NoLst H4 p := .ins hp4
  have cp4 : Ch H4 p := .ins hp4
  generalize eH5 : upd H4 p (.ins (He.ga K "Vault") dx (putF "_deeds" (.ref t2) (putF "_cells" (.ref t1) []))) = H5
  have b5 : But p H4 H5 := eH5 ▸ But.upd
  have hp5 : H5 p = some (.ins (He.ga K "Vault") dx (putF "_deeds" (.ref t2) (putF "_cells" (.ref t1) []))) := by rw [← eH5, upd_same]
  have hb5 : SqL K H5 b ys := sqL_but np4 b5 (s4.seq hb3)
  have b25 : But p H2 H5 := (b3.trans (same_but s4)).trans b5
  have at5 : H5 t1 = some (.tup xs) := b25 _ _ nt1p at2
  have nt2p : t2 ≠ p := fun e => by rw [e, hp3] at nt2; cases nt2
  have at52 : H5 t2 = some (.tup ys) := b5 _ _ nt2p at4
  have hxs5 : DpAll K H5 xs (v.cells.map cellD) := cells_but cp2 b25 (dps_same s2 hxs)
  have hys5 : DpAll K H5 ys (v.deeds.map deedD) := deeds_but cp2 b25 (dps_same s2 hys)
  refine ⟨_, rfl, b, rfl, ⟨_, hb5⟩, fun D hD => ?_⟩
  refine it_any (n := ys.length) walk_list (fun i H' => ∃ kvs, Same H5 H' ∧ H' D = some (.dK kvs) ∧ CodesR K H' kvs (v.deeds.take i)) ⟨[], same_new hD, upd_same, trivial⟩ (fun i H' _ ⟨_, s, _⟩ => s.seq hb5) ?_ ?_
  · rintro i x H' H6 hi ⟨kvs, s, eD, hc⟩ ⟨rfl, ex⟩
    obtain ⟨dd, ed, hdd⟩ := dps_get hys5 ex
    obtain ⟨d, ec, rfl⟩ := get_mapA ed
    obtain ⟨t, x1, x2, x3, rfl, ht, e1, e2, e3⟩ := dp3 (dp_same s hdd)
    cases dp_str e1
    have ok := g.ds d (List.mem_of_getElem? ec)
    refine ⟨t, _, rfl, ht, rfl, _, _, rfl, _, _, rfl, _, _, rfl, rfl, rfl, ?_⟩
    refine ⟨_, rfl, _, rfl, x3, d.2.2, v.cells.length, rfl, e3, ok.2.2.1, ok.2.2.2.2, fun H7 u s7 hu => ?_⟩
    have nn : d.1 ∉ (v.deeds.take i).map (·.1) := fun hm => by
      obtain ⟨d', hd', ed'⟩ := List.mem_map.mp hm
      obtain ⟨j, hj, ej⟩ := List.mem_iff_getElem.mp hd'
      rw [List.length_take] at hj
      rw [List.getElem_take] at ej
      have n1 : (v.deeds.map (·.1))[i]? = some d.1 := by rw [List.getElem?_map, ec]; rfl
      have n2 : (v.deeds.map (·.1))[j]? = some d.1 := by
        rw [List.getElem?_map, List.getElem?_eq_getElem (by omega : j < v.deeds.length), ej]
        exact congrArg some ed'
      have := nd_ix g.nd n1 n2
      omega
    have hl : kvs.length = (v.deeds.take i).length := codes_len hc
    have hl8 : (v.deeds.take i).length ≤ 8 := by rw [List.length_take]; have := g.d1; omega
    refine ⟨kvs, Sum.inr d.1, rfl, s7 _ _ eD, by rw [sizeLine_eq]; omega, _, ?_, upd_same, ?_⟩
    · exact fun b' o e => by
        rw [upd_ne (ne_of_none e hD)]
        exact s7 _ _ (s _ _ e)
    · rw [putK_new u (codes_no hc nn), take_more ec]
      exact codes_snoc (dp_but (.dK (s7 _ _ eD)) But.upd hu (code_noL _)) (codes_but (.dK (s7 _ _ eD)) But.upd (codes_same s7 hc))
  · rintro H6 ⟨kvs, s6, eD, hc⟩
    rw [ly, List.take_length] at hc
    have hp6 := s6 _ _ hp5
    refine ⟨_, rfl, p, _, dx, _, rfl, hp6, T.c_Vault, T.n_Vault_codes, (by show 2 < 1000; decide), ?_⟩
    have cp6 : Ch H6 p := .ins hp6
    have nDp : D ≠ p := fun e => by rw [e, hp5] at hD; cases hD
    generalize eH7 : upd H6 p (.ins (He.ga K "Vault") dx (putF "_codes" (.ref D) (putF "_deeds" (.ref t2) (putF "_cells" (.ref t1) [])))) = H7
    have b7 : But p H6 H7 := eH7 ▸ But.upd
    have hp7 : H7 p = some (.ins (He.ga K "Vault") dx (putF "_codes" (.ref D) (putF "_deeds" (.ref t2) (putF "_cells" (.ref t1) [])))) := by rw [← eH7, upd_same]
    have eD7 := b7 _ _ nDp eD
    have hc7 := codes_but cp6 b7 hc
    refine ⟨_, rfl, p, _, dx, _, _, rfl, hp7, T.c_Vault, T.n_Vault_codes, vf_codes0 .., D, kvs, v.deeds, "coin", rfl, eD7, hc7, ?_⟩
    refine ⟨_, rfl, p, _, dx, _, rfl, hp7, T.c_Vault, T.n_Vault_coins, (by show 3 < 1000; decide), ?_⟩
    generalize eH8 : upd H7 p (.ins (He.ga K "Vault") dx (putF "_coins" (.bl (hasW v.deeds "coin")) (putF "_codes" (.ref D) (putF "_deeds" (.ref t2) (putF "_cells" (.ref t1) []))))) = H8
    have b8 : But p H7 H8 := eH8 ▸ But.upd
    have hp8 : H8 p = some (.ins (He.ga K "Vault") dx (putF "_coins" (.bl (hasW v.deeds "coin")) (putF "_codes" (.ref D) (putF "_deeds" (.ref t2) (putF "_cells" (.ref t1) []))))) := by rw [← eH8, upd_same]
    have b58 : But p H5 H8 := ((same_but s6).trans b7).trans b8
    have cp5 : Ch H5 p := .ins hp5
    refine q H8 ((same_but s2).trans (b25.trans b58)) ⟨dx, t1, t2, D, hasW v.deeds "coin", kvs, hp8, ?_, ?_, b8 _ _ nDp eD7, codes_but (.ins hp7) b8 hc7⟩
    · exact .tup (.of (b58 _ _ nt1p at5)) (cells_but cp5 b58 hxs5)
    · exact .tup (.of (b58 _ _ nt2p at52)) (deeds_but cp5 b58 hys5)
end

end M

set_option Elab.async false
set_option linter.all false
set_option maxRecDepth 100000
set_option maxHeartbeats 2000000
namespace M
open PySem PySem.Spec PyProof.Rows L2

/-! ### a dict comprehension whose keys are tuples -/
/-- the new pair is put -/
theorem set_t {X : Cx} {pins : List (Addr × Obj)} {σ : L2.St} {H : Hp} {s : Shared} {E : Value → Shared → Prop} {D b : Addr} {kvs : List (List Key × V)} {k : List Key} {v : V} {r : Value} {Q : Unit → Shared → Prop} (hu : X.A.units + 1 < cLine) (I : Inv X pins σ H s) (e : H D = some (.dT kvs)) (eb : H b = some (.tup (k.map kV))) (lt : kvs.length < sizeLine)
    (rv : RelV v r) (go : ∀ s', Inv X pins σ (upd H D (.dT (putK kvs k v))) s' → Q () s') : wpAny (model X.prog X.w) X.A (dictSet D (.ref b) r) Q E s := by
  obtain ⟨z0, nd, zs, kt, dd⟩ := dt_of I.hok e
  have zl : zs.length ≤ sizeLine := (Paired.length kt) ▸ z0
  refine wpAny_dictSet_heap (show X.A.units < cLine from by omega) (key_of I.hok eb) dd (fun g' ⟨u0, es, ep, g1, g2, g3, g4, _, g5⟩ same => go _ ?_) zl
  refine d_write I (by rw [e]; exact True.intro) same ⟨u0, g1⟩ ⟨by have := length_putK kvs k v; omega, nd, _, (kt.put k eb rv).keeps fun c ys ec => ?_, u0, es, ep, g1, g2, g3, g4, g5⟩
  rw [upd_ne (ne_of ec e (fun j => nomatch j))]; exact ec
/-- D the new dict, its keys tuples -/
def tDcT (wi : TI) (g : TG) (tk tv : TE) (vs : List Nat) : TE := fun σ H Q => wi σ H fun J H1 => ∀ D, H1 D = none → ∃ W : Nat → Nat → Hp → Prop, (∃ m, W 0 m (upd H1 D (.dT []))) ∧ ∀ i m H', W i m H' → (J.stop i H' ∧ Q (.ref D) H') ∨
  (J.go i H' ∧ ∃ Nx : Hp → Prop, (∀ G, Nx G → ∃ m', m' < m ∧ W (i + 1) m' G) ∧ ∀ x G, J.yld i H' x G → g x (wipe σ vs) G fun σ2 G2 => wipe σ2 vs = wipe σ vs ∧ tk σ2 G2 fun y G3 => tv σ2 G3 fun z G4 =>
    ∃ kvs k b, y = .ref b ∧ G4 b = some (.tup (List.map kV k)) ∧ G4 D = some (.dT kvs) ∧ kvs.length < sizeLine ∧ Nx (upd G4 D (.dT (putK kvs k z))))
theorem pe_dcT {X : Cx} {kx vx tg iter : Expr} {scope : Scope} {own : List (Str × Nat)} {pos : Pos} {wi : TI} {g : TG} {tk tv : TE} (hu : X.A.units + 1 < cLine) (calm : X.calm = true) (nd : X.N.Nodup) (pi : PI X tg iter wi) (bk : BlkOk X.N X.env.scope scope own)
    (fg : ∀ (s : Shared) (H : Hp) (C : Addr) (cl : List (Str × Addr)) (fp : List Addr), PG (X.blk s H scope (compEnvC scope cl C X.env) fp) tg g)
    (fk : ∀ (s : Shared) (H : Hp) (C : Addr) (cl : List (Str × Addr)) (fp : List Addr), PE (X.blk s H scope (compEnvC scope cl C X.env) fp) kx tk)
    (fv : ∀ (s : Shared) (H : Hp) (C : Addr) (cl : List (Str × Addr)) (fp : List Addr), PE (X.blk s H scope (compEnvC scope cl C X.env) fp) vx tv) (fs : ∀ x, foldedSetIterable iter X.env x = pure x := by intro _; rfl) :
    PE X (.DictComp kx vx [⟨tg, iter, [], 0⟩] scope pos) (tDcT wi g tk tv (own.map (·.2))) := by
  refine ⟨fun pins s σ H Q I h => ?_⟩
  rw [arm_eval_DictComp]
  have fr : ∀ y ∈ scope.names, y.2 = .free → ∃ c, X.env.cells.lookup y.1 = some c := fun y hy e =>
    (bk.free y hy e).elim (fun k => I.ok.has _ (.inl k)) (fun k => I.ok.has _ (.inr k))
  refine wpAny_comprehension_free rfl fs (closure_ok fr) bk.kind (fun y hy e => by rw [bk.uniq y hy, e]) (thn (pi.run pins s σ H _ I h) fun xv s1 hx => thn hx fun itv s2 r2 => ?_)
  obtain ⟨it, fp, tn, J, H2, rfl, I2, T, st2, f2, q⟩ := r2
  refine wpAny_newObj_type (newEnv_comp ?_)
  generalize eD : s2.heap.objs.size = D
  obtain ⟨W, ⟨m0, w0⟩, turn⟩ := q D (I2.hok.fresh (Nat.le_of_eq eD))
  generalize e3 : ({ s2 with heap := s2.heap.push { cls := .type "dict", data := .dict #[] } } : Shared) = s3
  have h3 : s3.heap = s2.heap.push { cls := .type "dict", data := .dict #[] } := e3 ▸ rfl
  have I3 : Inv X pins σ (upd H2 D (.dT [])) s3 := by
    rw [← e3]; exact I2.laid (t' := s2.toks) (fun b o e => Heap.get?_push_of_some _ e) (Nat.le_of_eq eD) (eD ▸ dt_empty s2.heap I2.big)
  have small : ∀ b ∈ fp, b < s2.heap.objs.size := fun b hb => Heap.lt_size (T.obj _ _ st2 b hb).choose_spec.1
  have f3 : ∀ b ∈ fp, FpOk X pins (upd H2 D (.dT [])) b ∧ b < s3.heap.objs.size := fun b hb => by
    have lt := small b hb
    exact ⟨⟨(upd_ne (eD ▸ Nat.ne_of_lt lt)).trans (f2 b hb).1, (f2 b hb).2⟩, by rw [h3, Heap.size_push]; exact Nat.lt_succ_of_lt lt⟩
  have st3 : tn 0 s3.heap := T.keep _ _ _ st2 fun b _ o e => h3 ▸ Heap.get?_push_of_some _ e
  have I4 := block_start I3 bk nd f3
  have a1 := fg s3 (upd H2 D (.dT [])) s3.heap.objs.size (cellsFrom (s3.heap.objs.size + 1) scope.names (cloFrom X.env.cells scope.names [])) fp
  have a2 := fk s3 (upd H2 D (.dT [])) s3.heap.objs.size (cellsFrom (s3.heap.objs.size + 1) scope.names (cloFrom X.env.cells scope.names [])) fp
  have a3 := fv s3 (upd H2 D (.dT [])) s3.heap.objs.size (cellsFrom (s3.heap.objs.size + 1) scope.names (cloFrom X.env.cells scope.names [])) fp
  have nf : ∀ b ∈ fp, (upd H2 D (.dT [])) b = none := fun b hb => (f3 b hb).1.1
  show codeAny _ _ (.compStart (.DictComp kx vx [⟨tg, iter, [], 0⟩] scope pos) 0 (.ref it) (.ref D) (compEnvC scope (cellsFrom (s3.heap.objs.size + 1) scope.names (cloFrom X.env.cells scope.names [])) s3.heap.objs.size X.env)) _ { s3 with heap := pushCells (s3.heap.push { cls := .type "dict", data := .dict #[] }) scope.names }
  generalize ec : compEnvC scope (cellsFrom (s3.heap.objs.size + 1) scope.names (cloFrom X.env.cells scope.names [])) s3.heap.objs.size X.env = ce at I4 a1 a2 a3 ⊢
  have cL : ce.locals = s3.heap.objs.size := ec ▸ rfl
  generalize eH : upd H2 D (.dT []) = H3 at I3 I4 a1 a2 a3 w0 nf f3
  generalize e4 : ({ s3 with heap := pushCells (s3.heap.push { cls := .type "dict", data := .dict #[] }) scope.names } : Shared) = s4 at I4 ⊢
  have st4 : tn 0 s4.heap := T.keep _ _ _ st3 fun b _ o e => e4 ▸ pushCells_keeps _ _ _ _ (Heap.get?_push_of_some _ e)
  have fpk : ∀ {σ' : L2.St} {H' : Hp} {s' : Shared}, Inv (X.blk s3 H3 scope ce fp) [] σ' H' s' → (∀ b ∈ fp, H' b = none) → ∀ b ∈ fp, FpOk (X.blk s3 H3 scope ce fp) [] H' b := fun I' hn b hb =>
    ⟨hn b hb, (I'.ok.exf b hb).1, I'.ok.exfs b hb, .inl hb, fun x c e => (I'.ok.exf b hb).2 x c e, fun p hp => nomatch (show p ∈ ([] : List (Addr × Obj)) from hp)⟩
  refine (fun lp => codeAny_compStart_dict lp (T.self X.A 0 _ _ _ st4 lp)) (compLoop_anyD (fun n s' => ∃ i H', Inv (X.blk s3 H3 scope ce fp) [] (wipe σ (own.map (·.2))) H' s' ∧ tn i s'.heap ∧ (∀ b ∈ fp, H' b = none) ∧ W i n H') ?_ m0 ⟨0, H3, I4, st4, nf, w0⟩)
  rintro n s5 ⟨i, H5, I5, st5, n5, w5⟩
  rcases turn i n H5 w5 with ⟨stop, qq⟩ | ⟨go, Nx, less, step⟩
  · refine thnF (T.done (X.blk s3 H3 scope ce fp) rfl rfl rfl calm i [] s5 _ H5 (fun _ _ => False) I5 (fpk I5 n5) st5 stop) fun r s6 ⟨hr, I6⟩ => ?_
    subst hr
    have I7 : Inv X pins σ H5 s6 := I3.call' (ch := fp) I6.os I6.base I6.hok I6.bare fun b hb => ⟨(f3 b hb).1.2.2.2.1, (f3 b hb).1.2.1, (f3 b hb).1.2.2.2.2.1, (f3 b hb).1.2.2.2.2.2⟩
    have nC : H5 s3.heap.objs.size = none := cL ▸ (show H5 ce.locals = none from I6.free)
    obtain ⟨m, hm, _⟩ := I6.loc
    refine ⟨m, cL ▸ (show s6.heap.Ns ce.locals m from hm), fun h'' sb => ?_⟩
    obtain ⟨p0, p1, p2, p3, p4, p5⟩ := I3.fpOk (Nat.le_refl _) nC
    exact ⟨.ref D, H5, I7.turned (t' := s6.toks) (fun b o hb e => (sb.2 b hb).trans e) p0 p1 p3 p4 p5, rfl, qq⟩
  · refine thnF (T.item (X.blk s3 H3 scope ce fp) rfl rfl rfl calm i [] s5 _ H5 (fun _ _ => False) I5 (fpk I5 n5) st5 go) fun r s6 ⟨u, hr, h6⟩ => ?_
    subst hr
    refine thnF h6 fun _ s7 ⟨x, H7, I7, r7, y7, st7, n7⟩ => thnF (a1.run _ s7 _ H7 x u _ (I7.pinned (fpk I7 n7) (T.obj _ _ st7)) r7 (step x H7 y7)) fun _ s8 ⟨σ8, H8, I8, hw8, q8⟩ => ?_
    refine wpAny_pure (show (if true = true then _ else _) from ?_)
    refine thnF (a2.run _ s8 σ8 H8 _ I8 q8) fun k10 s10 ⟨yk, H10, I10, r10, q10⟩ => thnF (a3.run _ s10 σ8 H10 _ I10 q10) fun z2 s11 ⟨yv, H11, I11, r11, kvs, k, b, ek, eb, eD1, lt, nx⟩ => ?_
    subst ek
    cases (show k10 = Value.ref b from r10)
    refine set_t (X := X.blk s3 H3 scope ce fp) hu I11 eD1 eb lt r11 fun s12 I12 => ?_
    obtain ⟨m', hm, w'⟩ := less _ nx
    have pk : ∀ b ∈ fp, ∀ o, s7.heap.get? b = some o → s12.heap.get? b = some o ∧ (upd H11 D (.dT (putK kvs k yv))) b = none := fun b hb o e =>
      have z := I12.pin (b, o) (List.mem_append_right _ (List.mem_append_right _ (mem_pinsAt hb e)))
      ⟨z.1, z.2.1⟩
    refine ⟨m', hm, i + 1, _, (I12.unpinned (pins := [])).weak (by rw [← hw8, wipe_length]) (fun j v e => (wipe_some (hw8 ▸ e)).1), T.keep _ _ _ st7 fun b hb o e => (pk b hb o e).1, fun b hb => ?_, w'⟩
    obtain ⟨o, e, _⟩ := T.obj _ _ st7 b hb
    exact (pk b hb o e).2

end M

set_option Elab.async false
set_option linter.all false
set_option maxRecDepth 100000
set_option maxHeartbeats 2000000
namespace M
open PySem PySem.Spec PyProof.Rows L2

/-! ### calls by their numbers -/
def ckey (c : Str × Int) : List Key := [Sum.inr c.1, Sum.inl c.2]
theorem ckey_inj {c d : Str × Int} (h : ckey c = ckey d) : c = d := by
  unfold ckey at h
  simp at h
  exact Prod.ext h.1 h.2
theorem ckey_v (c : Str × Int) : (ckey c).map kV = [V.str c.1, V.int c.2] := rfl
def numK (cs : List (Str × Int)) : List (List Key × V) := cs.mapIdx fun i c => (ckey c, V.int (i : Nat))
theorem valV_none {kvs : List (List Key × V)} {k : List Key} (h : ∀ p ∈ kvs, p.1 ≠ k) : valV kvs k = none := by
  unfold valV
  have e : kvs.find? (fun kv => decide (kv.1 = k)) = none := List.find?_eq_none.mpr fun p hp => by simpa using h p hp
  rw [e]
  rfl
theorem valV_at : ∀ {kvs : List (List Key × V)} {i : Nat} {k : List Key} {v : V}, kvs[i]? = some (k, v) → (∀ j p, j < i → kvs[j]? = some p → p.1 ≠ k) → valV kvs k = some v
  | [], i, k, v, h, _ => by simp at h
  | p :: r, 0, k, v, h, _ => by
    cases (Option.some.inj h)
    unfold valV
    rw [List.find?_cons_of_pos (by simp)]
    rfl
  | p :: r, i + 1, k, v, h, n => by
    have := valV_at (kvs := r) (i := i) h fun j q hj e => n (j + 1) q (by omega) e
    unfold valV at this ⊢
    rw [List.find?_cons_of_neg (by simpa using n 0 p (by omega) rfl)]
    exact this
theorem numK_snoc (cs : List (Str × Int)) (c : Str × Int) : numK (cs ++ [c]) = numK cs ++ [(ckey c, V.int (cs.length : Nat))] := by
  unfold numK
  rw [List.mapIdx_concat]
theorem numK_at {cs : List (Str × Int)} {i : Nat} {c : Str × Int} (h : cs[i]? = some c) : (numK cs)[i]? = some (ckey c, V.int (i : Nat)) := by
  unfold numK
  rw [List.getElem?_mapIdx, h]
  rfl
theorem numK_of {cs : List (Str × Int)} {i : Nat} {p : List Key × V} (h : (numK cs)[i]? = some p) : ∃ c, cs[i]? = some c ∧ p = (ckey c, V.int (i : Nat)) := by
  unfold numK at h
  rw [List.getElem?_mapIdx] at h
  cases e : cs[i]? with
  | none => rw [e] at h; cases h
  | some c => rw [e] at h; exact ⟨c, rfl, (Option.some.inj h).symm⟩
theorem nd_ixG {α : Type} {l : List α} (n : l.Nodup) {i j : Nat} {x : α} (hi : l[i]? = some x) (hj : l[j]? = some x) : i = j := by
  obtain ⟨li, ei⟩ := List.getElem?_eq_some_iff.mp hi
  obtain ⟨lj, ej⟩ := List.getElem?_eq_some_iff.mp hj
  have p := List.pairwise_iff_getElem.mp n
  rcases Nat.lt_trichotomy i j with h | h | h
  · exact absurd (ei.trans ej.symm) (p i j li lj h)
  · exact h
  · exact absurd (ej.trans ei.symm) (p j i lj li h)
theorem numK_val {cs : List (Str × Int)} {i : Nat} {c : Str × Int} (n : cs.Nodup) (h : cs[i]? = some c) : valV (numK cs) (ckey c) = some (V.int (i : Nat)) := by
  refine valV_at (numK_at h) fun j p hj e q => ?_
  obtain ⟨d, hd, rfl⟩ := numK_of e
  have := ckey_inj q
  subst this
  have := nd_ixG n hd h
  omega
theorem numK_new {cs : List (Str × Int)} {c : Str × Int} (n : c ∉ cs) : valV (numK cs) (ckey c) = none := by
  refine valV_none fun p hp e => ?_
  obtain ⟨i, hi, ei⟩ := List.mem_iff_getElem.mp hp
  obtain ⟨d, hd, rfl⟩ := numK_of (by rw [List.getElem?_eq_getElem hi, ei])
  have := ckey_inj e
  subst this
  exact n (List.mem_of_getElem? hd)
theorem numK_len (cs : List (Str × Int)) : (numK cs).length = cs.length := by simp [numK]
theorem calls_nd {v : Vlt} (n : (v.deeds.map (·.1)).Nodup) : v.calls.Nodup := by
  unfold Vlt.calls List.Nodup
  rw [List.pairwise_flatMap]
  refine ⟨fun d _ => ?_, ?_⟩
  · rw [List.pairwise_map]
    refine List.Pairwise.imp (fun {a b} h e => h ?_) (List.nodup_range (n := d.2.1.toNat))
    have := (Prod.ext_iff.mp e).2
    simp only [] at this
    exact Int.ofNat.inj this
  · have n := List.pairwise_map.mp n
    refine n.imp fun {a b} h x hx y hy e => ?_
    obtain ⟨_, _, rfl⟩ := List.mem_map.mp hx
    obtain ⟨_, _, rfl⟩ := List.mem_map.mp hy
    exact h (Prod.ext_iff.mp e).1
theorem calls_len {v : Vlt} (ok : VOk v) : v.calls.length ≤ 72 := by
  have : ∀ l : List (Str × Int × List Row), (∀ d ∈ l, d.2.1 ≤ 9) → (l.flatMap fun d => (List.range d.2.1.toNat).map fun (j : Nat) => (d.1, (j : Int))).length ≤ 9 * l.length := by
    intro l
    induction l with
    | nil => intro _; simp
    | cons d r ih =>
      intro h
      rw [List.flatMap_cons, List.length_append, List.length_map, List.length_range, List.length_cons]
      have h1 := h d List.mem_cons_self
      have h2 := ih fun d hd => h d (List.mem_cons_of_mem _ hd)
      omega
  have q := this v.deeds fun d hd => (ok.ch d hd).2
  have := ok.d1
  unfold Vlt.calls
  omega
theorem calls_of {v : Vlt} {c : Str × Int} (h : c ∈ v.calls) : ∃ d ∈ v.deeds, d.1 = c.1 := by
  unfold Vlt.calls at h
  obtain ⟨d, hd, hc⟩ := List.mem_flatMap.mp h
  obtain ⟨_, _, rfl⟩ := List.mem_map.mp hc
  exact ⟨d, hd, rfl⟩
theorem tups_at {H : Hp} : ∀ {ys : List V} {cs : List (Str × Int)} {i : Nat} {y : V}, TupsAt H ys cs → ys[i]? = some y → ∃ c t, cs[i]? = some c ∧ y = .ref t ∧ H t = some (.tup [.str c.1, .int c.2])
  | [], [], i, y, _, h => by simp at h
  | _ :: _, c :: _, 0, y, ⟨⟨t, e, h⟩, _⟩, q => by
    cases (Option.some.inj q)
    exact ⟨c, t, rfl, e, h⟩
  | _ :: _, _ :: _, i + 1, y, ⟨_, r⟩, q => tups_at (i := i) r q
  | [], _ :: _, _, _, h, _ => h.elim
  | _ :: _, [], _, _, h, _ => h.elim
/-- the vault's method m is its class's -/
theorem VaultAt.me {K : PySem.W.Frag} {H : Hp} {p : Addr} {v : Vlt} (h : VaultAt K H p v) (m : Str) (h1 : ¬ m = "_cells" := by decide +kernel) (h2 : ¬ m = "_deeds" := by decide +kernel) (h3 : ¬ m = "_codes" := by decide +kernel) (h4 : ¬ m = "_coins" := by decide +kernel) :
    ∃ dx fs, H p = some (.ins (He.ga K "Vault") dx fs) ∧ fs.lookup m = none := by
  obtain ⟨dx, a, d, c, b, kvs, e1, _⟩ := h.ob
  exact ⟨dx, _, e1, vf_no a d c b h1 h2 h3 h4⟩
section
variable {P : Program} {w : World} {K : PySem.W.Frag} {mg : Str → Option Value} {base : Heap}
def spNumbers (K : PySem.W.Frag) : Sp := fun vs H Q _ => ∃ (p : Addr) (v : Vlt), vs = [.ref p] ∧ VaultAt K H p v ∧ VOk v ∧ ∀ d H', Same H H' → H' d = some (.dT (numK v.calls)) → Q (.ref d) H'
theorem ca_call_numbers (T : Txt w K mg) : Ca P w K mg base 2 "call_numbers" (spNumbers K) := by
  refine ca_of (N := ["vault", "number", "call"]) (ps := ["vault"]) T.f_call_numbers T.g_call_numbers ⟨rfl, rfl, rfl, by decide +kernel, rfl, by decide +kernel, by decide +kernel⟩ (fun _ _ _ _ _ _ us hl => match us, hl with | [_], _ => rfl)
    (fun vs H Q E h => by obtain ⟨p, v, rfl, hv, ok, q⟩ := h; rfl) (fun cdv A outer s H vs Q E hr h => ?_)
  have nd : (["vault", "number", "call"] : List Str).Nodup := by decide +kernel
  obtain ⟨p, v, rfl, hv, ok, q⟩ := h
  refine ⟨_, pss_one (ps_ret (pe_dcT (own := [("number", 1), ("call", 2)]) (hu_of hr) rfl nd (pi_enum (by rfl) T.b_enumerate (pa_cons (pe_me0 (me_Vault_calls T) hr (pv 0)) pa_nil)) (blkOk_by (N := ["vault", "number", "call"]) (sc := defScope s_call_numbers) (by decide +kernel))
    (fun _ _ _ _ _ => pg_two K 1 2 rfl rfl nd rfl rfl (.inl rfl) (.inl rfl) (.inr rfl) (.inr rfl)) (fun _ _ _ _ _ => pv 2) (fun _ _ _ _ _ => pv 1))), ?_⟩
  obtain ⟨dx, fs, e1, e2⟩ := hv.me "calls"
  refine ⟨_, rfl, p, dx, fs, rfl, e1, e2, p, v, rfl, hv, ok, fun a ys H1 s1 ha ht => ⟨a, ys, rfl, .of ha, fun D hD => ?_⟩⟩
  have nds := calls_nd ok.nd
  have ly := tups_len ht
  have l72 := calls_len ok
  refine it_any (n := ys.length) walk_enum (fun i H' => Same H1 H' ∧ H' D = some (.dT (numK (v.calls.take i)))) ⟨same_new hD, upd_same⟩ (fun i H' _ ⟨s, _⟩ => s.seq (.of ha)) ?_ ?_
  · rintro i x H' H2 hi ⟨s, eD⟩ ⟨t, x1, x2, rfl, nt, rfl, e1, e2⟩
    cases (Option.some.inj e1)
    obtain ⟨c, u, hc, rfl, hu⟩ := tups_at ht e2
    refine ⟨t, _, rfl, .of upd_same, rfl, _, _, rfl, _, _, rfl, rfl, rfl, ?_⟩
    have ntD : D ≠ t := ne_of_none eD nt
    have hu2 := same_new (o := .tup [.int (i : Nat), .ref u]) nt _ _ (s _ _ hu)
    refine ⟨_, rfl, _, rfl, _, ckey c, u, rfl, hu2, by rw [upd_ne ntD]; exact eD, by rw [numK_len, List.length_take, sizeLine_eq]; omega, fun b o e => ?_, ?_⟩
    · rw [upd_ne (ne_of_none e hD), upd_ne (ne_of_none (s _ _ e) nt)]
      exact s _ _ e
    · rw [upd_same]
      have nn : c ∉ v.calls.take i := fun hm => by
        obtain ⟨j, hj, ej⟩ := List.mem_iff_getElem.mp hm
        rw [List.length_take] at hj
        rw [List.getElem_take] at ej
        have := nd_ixG nds (by rw [List.getElem?_eq_getElem (by omega : j < v.calls.length), ej]) hc
        omega
      rw [putK_new _ (numK_new nn), take_more hc, numK_snoc, List.length_take]
      have : min i v.calls.length = i := by omega
      rw [this]
  · rintro H' ⟨s, eD⟩
    rw [ly, List.take_length] at eD
    exact q D H' (s1.trans s) eD
end

end M

set_option Elab.async false
set_option linter.all false
set_option maxRecDepth 100000
set_option maxHeartbeats 2000000
namespace M
open PySem PySem.Spec PyProof.Rows L2

/-- an attribute, the library told -/
theorem pe_fldK {X : Cx} {e : Expr} {ta : TE} {f : Str} {pos : Pos} (K : PySem.W.Frag) (hK : X.K = K) (he : PE X e ta) (hb : attributeBase e f X.env (eval e X.env) = eval e X.env) : PE X (.Attribute e f pos) (tFld K ta f) := hK ▸ pe_fld he hb
section
variable {P : Program} {w : World} {K : PySem.W.Frag} {mg : Str → Option Value} {base : Heap}
def spNumber : Sp := fun vs H Q _ => ∃ (d t : Addr) (kvs : List (List Key × V)) (c : Str × Int) (i : Int), vs = [.ref d, .ref t] ∧ H d = some (.dT kvs) ∧ H t = some (.tup [.str c.1, .int c.2]) ∧ valV kvs (ckey c) = some (.int i) ∧ Q (.int i) H
theorem ca_call_number (T : Txt w K mg) : Ca P w K mg base 3 "call_number" (spNumber) := by
  refine ca_of (N := ["numbers", "value"]) (ps := ["numbers", "value"]) T.f_call_number T.g_call_number ⟨rfl, rfl, rfl, by decide +kernel, rfl, by decide +kernel, by decide +kernel⟩ (fun _ _ _ _ _ _ us hl => match us, hl with | [_, _], _ => rfl)
    (fun vs H Q E h => by obtain ⟨d, t, kvs, c, i, rfl, hd, ht, hv, q⟩ := h; rfl) (fun cdv A outer s H vs Q E hr h => ?_)
  have nd : (["numbers", "value"] : List Str).Nodup := by decide +kernel
  obtain ⟨d, t, kvs, c, i, rfl, hd, ht, hv, q⟩ := h
  refine ⟨_, (pss_cons (ps_if (PW.pt (pw_or (pt_not (pt_val (pe_ca (ca_is_tuple T) hr (pa_cons (pv 1) (pa_cons pe_int pa_nil))))) (pw_or (pt_not (pt_val (pe_is .str T.b_isinstance (pe_ix ix_tup (pv 1) pe_int (fun _ _ => rfl)) T.b_str boot_str))) (pw_or1 (pt_not (pt_val (pe_ca (ca_is_integer T) hr (pa_cons (pe_ix ix_tup (pv 1) pe_int (fun _ _ => rfl)) pa_nil)))))))) (pss_one (ps_ret (pe_un un_neg pe_int))) pss_nil)
      (pss_one (ps_ret (pe_dget2 (hu_of hr) (pv 0) (pv 1) (pe_un un_neg pe_int) ⟨rfl, rfl, rfl, rfl⟩)))), ?_⟩
  refine ⟨_, rfl, _, _, _, rfl, .of ht, _, rfl, iteF ?_⟩
  refine ⟨_, rfl, _, _, _, _, rfl, rfl, .of ht, at0, _, _, rfl, .str _, _, rfl, iteF ?_⟩
  refine ⟨_, rfl, _, _, _, _, rfl, rfl, .of ht, at1, _, _, rfl, .int _, _, rfl, iteF ?_⟩
  refine ⟨_, rfl, d, rfl, .inr ⟨kvs, .inl hd⟩, _, rfl, _, rfl, _, DGet.t hd (k := ckey c) ht, ?_⟩
  rw [hv]
  exact q
def spFalls (K : PySem.W.Frag) : Sp := fun vs H Q _ => ∃ (a : Addr) (fs : List Int), vs = [.ref a] ∧ SqL K H a (fs.map .int) ∧ (∀ f ∈ fs, 0 ≤ f ∧ f ≤ 1) ∧ Q (.bl true) H
theorem ca_are_falls (T : Txt w K mg) : Ca P w K mg base 3 "are_falls" (spFalls K) := by
  refine ca_of (N := ["falls", "fall"]) (ps := ["falls"]) T.f_are_falls T.g_are_falls ⟨rfl, rfl, rfl, by decide +kernel, rfl, by decide +kernel, by decide +kernel⟩ (fun _ _ _ _ _ _ us hl => match us, hl with | [_], _ => rfl)
    (fun vs H Q E h => by obtain ⟨a, fs, rfl, ha, ok, q⟩ := h; rfl) (fun cdv A outer s H vs Q E hr h => ?_)
  have nd : (["falls", "fall"] : List Str).Nodup := by decide +kernel
  obtain ⟨a, fs, rfl, ha, ok, q⟩ := h
  refine ⟨_, (pss_cons (ps_for PassesOwn.never rfl (pi_list (pv 0)) (pg_name (i := 1) nd rfl (.inl rfl)) (pss_one (ps_if (pt_not (pt_val (pe_ca (ca_is_within T) hr (pa_cons (pv 1) (pa_cons pe_int (pa_cons pe_int pa_nil)))))) (pss_one (ps_ret pe_bl)) pss_nil)))
      (pss_one (ps_ret pe_bl))), ?_⟩
  refine ⟨_, rfl, a, rfl, ⟨_, ha⟩, for_list (xs := fs.map V.int) (fun i σ' H' => ∃ x, σ' = [some (.ref a), x] ∧ H' = H) ⟨none, rfl, rfl⟩ (fun i σ' H' _ ⟨_, _, e⟩ => e ▸ ha) ?_ ?_⟩
  · rintro i x σ' H' hx ⟨_, rfl, rfl⟩
    obtain ⟨f, hf, rfl⟩ := get_map hx
    refine ⟨_, rfl, f, 0, 1, rfl, _, rfl, ?_⟩
    rw [within_t (ok f (List.mem_of_getElem? hf))]
    exact iteF ⟨_, rfl, rfl⟩
  · rintro σ' H' ⟨_, rfl, rfl⟩
    exact q
def spChkState (K : PySem.W.Frag) : Sp := fun vs H Q _ => ∃ (p b : Addr) (v : Vlt) (hs : List Int), vs = [.ref p, .ref b] ∧ VaultAt K H p v ∧ VOk v ∧ SqT K H b (hs.map .int) ∧ StateOk (v.cells.map (·.1)) hs ∧ ∀ H', Same H H' → Q .non H'
theorem ca_check_state (T : Txt w K mg) : Ca P w K mg base 4 "check_state" (spChkState K) := by
  refine ca_of (N := ["vault", "state"]) (ps := ["vault", "state"]) T.f_check_state T.g_check_state ⟨rfl, rfl, rfl, by decide +kernel, rfl, by decide +kernel, by decide +kernel⟩ (fun _ _ _ _ _ _ us hl => match us, hl with | [_, _], _ => rfl)
    (fun vs H Q E h => by obtain ⟨p, b, v, hs, rfl, hv, ok, hb, so, q⟩ := h; rfl) (fun cdv A outer s H vs Q E hr h => ?_)
  have nd : (["vault", "state"] : List Str).Nodup := by decide +kernel
  obtain ⟨p, b, v, hs, rfl, hv, ok, hb, so, q⟩ := h
  refine ⟨_, (pss_one (ps_if (pt_not (pt_val (pe_ca (ca_is_state T) hr (pa_cons (pe_me0 (me_Vault_sizes T) hr (pv 0)) (pa_cons (pv 1) pa_nil))))) (pss_one ps_never) pss_nil)), ?_⟩
  obtain ⟨dx, fs, e1, e2⟩ := hv.me "sizes"
  refine ⟨_, rfl, p, dx, fs, rfl, e1, e2, p, v, rfl, hv, ok.c1, fun a H1 s1 ha => ⟨_, rfl, a, b, _, hs, rfl, .of ha, same_t s1 hb, so, fun H2 s2 => ⟨_, rfl, iteF (q H2 (s1.trans s2))⟩⟩⟩
def spChkCall (K : PySem.W.Frag) : Sp := fun vs H Q _ => ∃ (p t : Addr) (v : Vlt) (i : Nat) (c : Str × Int), vs = [.ref p, .ref t] ∧ VaultAt K H p v ∧ VOk v ∧ H t = some (.tup [.str c.1, .int c.2]) ∧ v.calls[i]? = some c ∧ ∀ H', Same H H' → Q .non H'
theorem ca_check_call (T : Txt w K mg) : Ca P w K mg base 4 "check_call" (spChkCall K) := by
  refine ca_of (N := ["vault", "call"]) (ps := ["vault", "call"]) T.f_check_call T.g_check_call ⟨rfl, rfl, rfl, by decide +kernel, rfl, by decide +kernel, by decide +kernel⟩ (fun _ _ _ _ _ _ us hl => match us, hl with | [_, _], _ => rfl)
    (fun vs H Q E h => by obtain ⟨p, t, v, i, c, rfl, hv, ok, ht, hc, q⟩ := h; rfl) (fun cdv A outer s H vs Q E hr h => ?_)
  have nd : (["vault", "call"] : List Str).Nodup := by decide +kernel
  obtain ⟨p, t, v, i, c, rfl, hv, ok, ht, hc, q⟩ := h
  refine ⟨_, (pss_one (ps_if (pt_cmpR op_lt (pe_ca (ca_call_number T) hr (pa_cons (pe_ca (ca_call_numbers T) hr (pa_cons (pv 0) pa_nil)) (pa_cons (pv 1) pa_nil))) pe_int (nomark _)) (pss_one ps_never) pss_nil)), ?_⟩
  refine ⟨_, rfl, p, v, rfl, hv, ok, fun d H1 s1 hd => ⟨_, rfl, d, t, _, c, i, rfl, hd, s1 _ _ ht, numK_val (calls_nd ok.nd) hc, ?_⟩⟩
  refine ⟨_, _, rfl, rfl, _, rfl, ?_⟩
  rw [decide_eq_false (show ¬ ((i : Nat) : Int) < 0 from by omega)]
  exact iteF (q H1 s1)
/-- what a run of the call c begins with -/
def StartAt (K : PySem.W.Frag) (H : Hp) (v : Vlt) (c : Str × Int) (y : V) : Prop := ∃ d ∈ v.deeds, d.1 = c.1 ∧ Dp K H y (.tuple [codeD d.2.2, .int c.2])
theorem StartAt.but {H H' : Hp} {v : Vlt} {c : Str × Int} {y : V} {D : Addr} (hD : Ch H D) (s : But D H H') (h : StartAt K H v c y) : StartAt K H' v c y := by
  obtain ⟨d, hd, e, h⟩ := h
  refine ⟨d, hd, e, dp_but hD s h (.tup fun x hx => ?_)⟩
  rcases List.mem_cons.mp hx with rfl | hx
  · exact code_noL _
  · rw [List.mem_singleton.mp hx]
    exact .int _
def spStarts (K : PySem.W.Frag) : Sp := fun vs H Q _ => ∃ (p : Addr) (v : Vlt), vs = [.ref p] ∧ VaultAt K H p v ∧ VOk v ∧ ∀ (a : Addr) (ys : List V) (H' : Hp), Same H H' → H' a = some (.lst ys) → ys.length = v.calls.length → (∀ (i : Nat) (y : V), ys[i]? = some y → ∃ c, v.calls[i]? = some c ∧ StartAt K H' v c y) → Q (.ref a) H'
theorem me_Vault_starts (T : Txt w K mg) : Me P w K mg base 2 (He.ga K "Vault") "starts" (spStarts K) := by
  refine me_of (N := ["self", "name", "argument"]) (ps := ["self"]) T.f_Vault_starts T.c_Vault T.m_Vault_starts ⟨rfl, rfl, rfl, by decide +kernel, rfl, by decide +kernel, by decide +kernel⟩ (fun _ _ _ _ _ _ us hl => match us, hl with | [_], _ => rfl)
    (fun vs H Q E h => by obtain ⟨p, v, rfl, hv, ok, q⟩ := h; rfl) (fun cdv A outer s H vs Q E hr h => ?_)
  have nd : (["self", "name", "argument"] : List Str).Nodup := by decide +kernel
  obtain ⟨p, v, rfl, hv, ok, q⟩ := h
  obtain ⟨dx, a, d, c, b, kvs, h1, h2, h3, h4, h5⟩ := hv.ob
  refine ⟨_, pss_one (ps_ret (pe_lc (own := [("name", 1), ("argument", 2)]) (tt := tYes) rfl nd (pi_list (pe_me0 (me_Vault_calls T) hr (pv 0))) (blkOk_by (N := ["self", "name", "argument"]) (sc := defScope s_Vault_starts) (by decide +kernel))
    (fun _ _ _ _ _ => pg_two K 1 2 rfl rfl nd rfl rfl (.inl rfl) (.inl rfl) (.inr rfl) (.inr rfl)) (fun _ _ _ _ _ => pts_nil) (fun _ _ _ _ _ => pe_tup (pa_cons (pe_dget (hu_of hr) (pe_fldK K rfl (pv 0) rfl) (pv 1) (fun _ _ => rfl)) (pa_cons (pv 2) pa_nil))))), ?_⟩
  obtain ⟨dx', fs, e1, e2⟩ := hv.me "calls"
  have l72 := calls_len ok
  refine ⟨_, rfl, p, dx', fs, rfl, e1, e2, p, v, rfl, hv, ok, fun l ys H1 s1 hl ht => ⟨l, rfl, ⟨_, .of hl⟩, fun D hD => ?_⟩⟩
  have ly := tups_len ht
  refine lc_out (n := ys.length) walk_list hD (by omega) (fun i y H => ∃ c, v.calls[i]? = some c ∧ StartAt K H v c y) (fun i y H H' hc s ⟨c, e, h⟩ => ⟨c, e, h.but hc s⟩) (fun H' s => s.seq (.of hl)) (fun i x H' H2 N F hi s y k => ?_) (fun H' zs s hD' hl' hr => ?_)
  · obtain ⟨rfl, ex⟩ := y
    obtain ⟨cc, t, hc, rfl, hu⟩ := tups_at ht ex
    obtain ⟨dd, hdd, en⟩ := calls_of (List.mem_of_getElem? hc)
    have sH := s1.trans s
    obtain ⟨u, hu2, hcode⟩ := codes_get (codes_same sH h5) ok.nd hdd
    refine ⟨t, _, rfl, .of (s _ _ hu), rfl, _, _, rfl, _, _, rfl, rfl, rfl, iteT ?_⟩
    refine ⟨_, rfl, p, _, _, _, _, rfl, sH _ _ h1, T.c_Vault, T.n_Vault_codes, vf_codes .., _, rfl, c, u, rfl, ?_, _, rfl, (by show 2 ≤ sizeLine; decide), fun t2 nt2 => k _ _ (same_new nt2) ⟨cc, hc, dd, hdd, en, ?_⟩⟩
    · rw [← en, ← hu2]
      exact DGet.k (k := Sum.inr dd.1) (sH _ _ h4)
    · exact .tup (.of upd_same) (.cons (dp_same (same_new nt2) hcode) (.cons (.int _) .nil))
  · refine q D zs H' (s1.trans s) hD' (by omega) hr
end

end M

set_option Elab.async false
set_option linter.all false
set_option maxRecDepth 100000
set_option maxHeartbeats 2000000
namespace M
open PySem PySem.Spec PyProof.Rows L2

/-! ### the registers -/
def heldK (r : Str → Int) : List (Key × V) := regs5.map fun s => (Sum.inr s, V.int (r s))
def rset (r : Str → Int) (s : Str) (i : Int) : Str → Int := fun t => if t = s then i else r t
theorem valV_map {f : Str → V} {s : Str} : ∀ {l : List Str}, s ∈ l → valV (l.map fun t => ((Sum.inr t : Key), f t)) (Sum.inr s) = some (f s)
  | [], h => by cases h
  | t :: l, h => by
    unfold valV
    by_cases e : t = s
    · subst e
      rw [List.map_cons, List.find?_cons_of_pos (by simp)]
      rfl
    · have hs : s ∈ l := by
        rcases List.mem_cons.mp h with z | z
        · exact absurd z.symm e
        · exact z
      have := valV_map (f := f) hs
      unfold valV at this
      rw [List.map_cons, List.find?_cons_of_neg (by simp [e])]
      exact this
theorem held_get {r : Str → Int} {s : Str} (h : s ∈ regs5) : valV (heldK r) (Sum.inr s) = some (.int (r s)) := valV_map (f := fun s => V.int (r s)) h
theorem held_put {r : Str → Int} {s : Str} {i : Int} (h : s ∈ regs5) : putK (heldK r) (Sum.inr s) (.int i) = heldK (rset r s i) := by
  unfold putK
  rw [valV_any, held_get h, if_pos (show (some (V.int (r s))).isSome = true from rfl)]
  unfold heldK
  rw [List.map_map]
  refine List.map_congr_left fun t _ => ?_
  show (if (Sum.inr t : Key) = Sum.inr s then ((Sum.inr t : Key), V.int i) else ((Sum.inr t : Key), V.int (r t))) = _
  unfold rset
  by_cases e : t = s
  · rw [if_pos (by rw [e]), if_pos e]
  · rw [if_neg (fun z => e (Sum.inr.inj z)), if_neg e]
theorem in45 {s : Str} (h : s ∈ regs4) : s ∈ regs5 := by
  unfold regs4 at h
  unfold regs5
  simp at h ⊢
  rcases h with h | h | h | h
  · exact .inl h
  · exact .inr (.inl h)
  · exact .inr (.inr (.inl h))
  · exact .inr (.inr (.inr (.inl h)))
def r0 (x : Int) : Str → Int := fun s => if s = "x" then x else 0
abbrev kS (s : Str) (v : V) : Key × V := (Sum.inr s, v)
theorem held_r0 (x : Int) : heldK (r0 x) = [kS "a" (.int 0), kS "b" (.int 0), kS "c" (.int 0), kS "d" (.int 0), kS "x" (.int x)] := by
  have e1 : ¬ (("a" : Str) = "x") := by decide +kernel
  have e2 : ¬ (("b" : Str) = "x") := by decide +kernel
  have e3 : ¬ (("c" : Str) = "x") := by decide +kernel
  have e4 : ¬ (("d" : Str) = "x") := by decide +kernel
  unfold heldK regs5 r0
  simp only [List.map_cons, List.map_nil]
  rw [if_neg e1, if_neg e2, if_neg e3, if_neg e4, if_pos trivial]
theorem held_disp (x : Int) : mergeK [] [kS "a" (.int 0), kS "b" (.int 0), kS "c" (.int 0), kS "d" (.int 0), kS "x" (.int x)] = heldK (r0 x) := by
  rw [held_r0]
  kernel_rfl
/-! ### the value of an expression -/
def opv (s : Str) (l r : Int) : Int := if s = "+" then (l + r) % 10 else if s = "-" then (l - r) % 10 else if s = "*" then (l * r) % 10 else if s = "=" then (if l = r then 1 else 0) else if l < r then 1 else 0
def Exp.ev (r : Str → Int) : Exp → Int
  | .num n => n
  | .reg s => r s
  | .op s a b => opv s (a.ev r) (b.ev r)
def RegOk (r : Str → Int) : Prop := ∀ s ∈ regs5, 0 ≤ r s ∧ r s ≤ 9
theorem opv_bd (s : Str) (l r : Int) : 0 ≤ opv s l r ∧ opv s l r ≤ 9 := by
  unfold opv
  split
  · omega
  split
  · omega
  split
  · have := Int.emod_nonneg (l * r) (show (10 : Int) ≠ 0 by decide)
    have := Int.emod_lt_of_pos (l * r) (show (0 : Int) < 10 by decide)
    omega
  split
  · split <;> omega
  · split <;> omega
theorem ev_bd {r : Str → Int} (h : RegOk r) : ∀ {e : Exp}, e.ok → 0 ≤ e.ev r ∧ e.ev r ≤ 9
  | .num n, o => o
  | .reg s, o => h s o
  | .op s a b, _ => opv_bd s _ _
theorem rset_ok {r : Str → Int} {s : Str} {i : Int} (h : RegOk r) (hi : 0 ≤ i ∧ i ≤ 9) : RegOk (rset r s i) := fun t ht => by
  unfold rset
  split
  · exact hi
  · exact h t ht
section
variable {P : Program} {w : World} {K : PySem.W.Frag} {mg : Str → Option Value} {base : Heap}
def spValue (K : PySem.W.Frag) (n : Nat) : Sp := fun vs H Q _ => ∃ (v : V) (e : Exp) (h : Addr) (r : Str → Int), vs = [v, .ref h] ∧ Dp K H v e.d ∧ e.ok ∧ e.dep < n ∧ H h = some (.dK (heldK r)) ∧ RegOk r ∧ Q (.int (e.ev r)) H
theorem ca_value_of : ∀ (n : Nat) (T : Txt w K mg), Ca P w K mg base (n + 1) "value_of" (spValue K n)
  | 0, T => by
    refine ca_of (N := ["expression", "held", "sign", "one", "other", "left", "right"]) (ps := ["expression", "held"]) T.f_value_of T.g_value_of ⟨rfl, rfl, rfl, by decide +kernel, rfl, by decide +kernel, by decide +kernel⟩ (fun _ _ _ _ _ _ us hl => match us, hl with | [_, _], _ => rfl)
      (fun vs H Q E h => by obtain ⟨v, e, h, r, rfl, hv, ok, hd, hh, ro, q⟩ := h; rfl) (fun cdv A outer s H vs Q E hr h => ?_)
    have nd : (["expression", "held", "sign", "one", "other", "left", "right"] : List Str).Nodup := by decide +kernel
    obtain ⟨v, e, h, r, rfl, hv, ok, hd, hh, ro, q⟩ := h
    omega
  | n + 1, T => by
    refine ca_of (N := ["expression", "held", "sign", "one", "other", "left", "right"]) (ps := ["expression", "held"]) T.f_value_of T.g_value_of ⟨rfl, rfl, rfl, by decide +kernel, rfl, by decide +kernel, by decide +kernel⟩ (fun _ _ _ _ _ _ us hl => match us, hl with | [_, _], _ => rfl)
      (fun vs H Q E h => by obtain ⟨v, e, h, r, rfl, hv, ok, hd, hh, ro, q⟩ := h; rfl) (fun cdv A outer s H vs Q E hr h => ?_)
    have nd : (["expression", "held", "sign", "one", "other", "left", "right"] : List Str).Nodup := by decide +kernel
    obtain ⟨v, e, h, r, rfl, hv, ok, hd, hh, ro, q⟩ := h
    refine ⟨_, (pss_cons (ps_if (pt_val (pe_is .str T.b_isinstance (pv 0) T.b_str boot_str)) (pss_one (ps_ret (pe_dget (hu_of hr) (pv 1) (pv 0) (fun _ _ => rfl)))) pss_nil)
      (pss_cons (ps_if (pt_val (pe_is .int T.b_isinstance (pv 0) T.b_int boot_int)) (pss_one (ps_ret (pv 0))) pss_nil)
      (pss_cons (ps_asg (pv 0) (pg_three K 2 3 4 rfl rfl nd rfl rfl rfl (.inl rfl) (.inl rfl) (.inl rfl) (.inr rfl) (.inr rfl) (.inr rfl)))
      (pss_cons (ps_set (i := 5) nd rfl (.inl rfl) (pe_ca (ca_value_of n T) hr (pa_cons (pv 3) (pa_cons (pv 1) pa_nil)) (by omega)))
      (pss_cons (ps_set (i := 6) nd rfl (.inl rfl) (pe_ca (ca_value_of n T) hr (pa_cons (pv 4) (pa_cons (pv 1) pa_nil)) (by omega)))
      (pss_cons (ps_if (pt_cmpR op_eq (pv 2) pe_str (nomark _)) (pss_one (ps_ret (pe_op op_mod (pe_op op_add (pv 5) (pv 6)) pe_int))) pss_nil)
      (pss_cons (ps_if (pt_cmpR op_eq (pv 2) pe_str (nomark _)) (pss_one (ps_ret (pe_op op_mod (pe_op op_sub (pv 5) (pv 6)) pe_int))) pss_nil)
      (pss_cons (ps_if (pt_cmpR op_eq (pv 2) pe_str (nomark _)) (pss_one (ps_ret (pe_op op_mod (pe_op op_mul (pv 5) (pv 6)) pe_int))) pss_nil)
      (pss_cons (ps_if (pt_cmpR op_eq (pv 2) pe_str (nomark _)) (pss_one (ps_ret (pe_ifExp (pt_cmpR op_eq (pv 5) (pv 6) (nomark _)) pe_int pe_int))) pss_nil)
      (pss_one (ps_ret (pe_ifExp (pt_cmpR op_lt (pv 5) (pv 6) (nomark _)) pe_int pe_int)))))))))))), ?_⟩
    cases e with
    | num m =>
      cases dp_int hv
      refine ⟨_, rfl, _, _, rfl, .int m, _, rfl, iteF ?_⟩
      exact ⟨_, rfl, _, _, rfl, .int m, _, rfl, iteT ⟨_, rfl, q⟩⟩
    | reg s =>
      cases dp_str hv
      refine ⟨_, rfl, _, _, rfl, .str s, _, rfl, iteT ?_⟩
      refine ⟨_, rfl, _, rfl, h, _, rfl, ?_, q⟩
      show DGet H h (.str s) (some (V.int (r s)))
      rw [← held_get ok]
      exact DGet.k (k := Sum.inr s) hh
    | op s a b =>
      obtain ⟨t, x1, x2, x3, rfl, ht, e1, e2, e3⟩ := dp3 hv
      cases dp_str e1
      obtain ⟨o1, o2, o3⟩ := ok
      have hd : Nat.max a.dep b.dep + 1 < n + 1 := hd
      have da : a.dep < n := Nat.lt_of_le_of_lt (Nat.le_max_left _ _) (Nat.lt_of_succ_lt_succ hd)
      have db : b.dep < n := Nat.lt_of_le_of_lt (Nat.le_max_right _ _) (Nat.lt_of_succ_lt_succ hd)
      refine ⟨_, rfl, _, _, rfl, .tuple ht, _, rfl, iteF ?_⟩
      refine ⟨_, rfl, _, _, rfl, .tuple ht, _, rfl, iteF ?_⟩
      refine ⟨_, rfl, t, _, rfl, ht, rfl, _, _, rfl, _, _, rfl, _, _, rfl, rfl, ?_⟩
      refine ⟨_, rfl, _, rfl, x2, a, h, r, rfl, e2, o2, da, hh, ro, ?_⟩
      refine ⟨_, rfl, _, rfl, x3, b, h, r, rfl, e3, o3, db, hh, ro, ?_⟩
      have ba := ev_bd ro o2
      have bb := ev_bd ro o3
      have q : Q (.int (opv s (a.ev r) (b.ev r))) H := q
      generalize a.ev r = l at q ba
      generalize b.ev r = m at q bb
      have n1 : ¬ (("-" : Str) = "+") := by decide +kernel
      have n2 : ¬ (("*" : Str) = "+") := by decide +kernel
      have n3 : ¬ (("*" : Str) = "-") := by decide +kernel
      have n4 : ¬ (("=" : Str) = "+") := by decide +kernel
      have n5 : ¬ (("=" : Str) = "-") := by decide +kernel
      have n6 : ¬ (("=" : Str) = "*") := by decide +kernel
      have n7 : ¬ (("<" : Str) = "+") := by decide +kernel
      have n8 : ¬ (("<" : Str) = "-") := by decide +kernel
      have n9 : ¬ (("<" : Str) = "*") := by decide +kernel
      have n10 : ¬ (("<" : Str) = "=") := by decide +kernel
      unfold signs at o1
      simp only [List.mem_cons, List.not_mem_nil, or_false] at o1
      rcases o1 with rfl | rfl | rfl | rfl | rfl
      · refine ⟨_, rfl, rfl, _, rfl, iteT ?_⟩
        refine ⟨_, rfl, _, rfl, _, _, rfl, rfl, _, _, rfl, rfl, (by show (0 : Int) < 10; decide), ?_⟩
        unfold opv at q
        rw [if_pos rfl] at q
        exact q
      · refine ⟨_, rfl, rfl, _, rfl, iteF ⟨_, rfl, rfl, _, rfl, iteT ?_⟩⟩
        refine ⟨_, rfl, _, rfl, _, _, rfl, rfl, _, _, rfl, rfl, (by show (0 : Int) < 10; decide), ?_⟩
        unfold opv at q
        rw [if_neg n1, if_pos rfl] at q
        exact q
      · refine ⟨_, rfl, rfl, _, rfl, iteF ⟨_, rfl, rfl, _, rfl, iteF ⟨_, rfl, rfl, _, rfl, iteT ?_⟩⟩⟩
        refine ⟨_, rfl, _, rfl, _, _, rfl, rfl, .inl (by omega), _, _, rfl, rfl, (by show (0 : Int) < 10; decide), ?_⟩
        unfold opv at q
        rw [if_neg n2, if_neg n3, if_pos rfl] at q
        exact q
      · refine ⟨_, rfl, rfl, _, rfl, iteF ⟨_, rfl, rfl, _, rfl, iteF ⟨_, rfl, rfl, _, rfl, iteF ⟨_, rfl, rfl, _, rfl, iteT ?_⟩⟩⟩⟩
        refine ⟨_, rfl, _, rfl, rfl, _, rfl, ?_⟩
        unfold opv at q
        rw [if_neg n4, if_neg n5, if_neg n6, if_pos rfl] at q
        by_cases c : l = m
        · rw [if_pos c] at q
          rw [decide_eq_true (show V.int l = V.int m from congrArg V.int c)]
          exact iteT q
        · rw [if_neg c] at q
          rw [decide_eq_false (show ¬ V.int l = V.int m from fun z => c (V.int.inj z))]
          exact iteF q
      · refine ⟨_, rfl, rfl, _, rfl, iteF ⟨_, rfl, rfl, _, rfl, iteF ⟨_, rfl, rfl, _, rfl, iteF ⟨_, rfl, rfl, _, rfl, iteF ?_⟩⟩⟩⟩
        refine ⟨_, rfl, _, rfl, _, _, rfl, rfl, _, rfl, ?_⟩
        unfold opv at q
        rw [if_neg n7, if_neg n8, if_neg n9, if_neg n10] at q
        by_cases c : l < m
        · rw [if_pos c] at q
          rw [decide_eq_true c]
          exact iteT q
        · rw [if_neg c] at q
          rw [decide_eq_false c]
          exact iteF q
end

end M

set_option Elab.async false
set_option linter.all false
set_option maxRecDepth 100000
set_option maxHeartbeats 2000000
namespace M
open PySem PySem.Spec PyProof.Rows L2

/-! ### a run -/
structure Mst where
  code : List FR
  sides : List Int
  cells : List Int
  coins : List Int
  fallen : Int
  regs : Str → Int
  rounds : List Int
  place : Int
  res : Option Int
structure RA where
  x : Addr
  dx : Addr
  c : Addr
  s : Addr
  l : Addr
  n : Addr
  h : Addr
  u : Addr
  ct : Bool
def resV : Option Int → V
  | none => .non
  | some i => .int i
def rf (c s l n : Addr) (f : Int) (h u : Addr) (p : Int) (z : V) : List (Str × V) := [("code", .ref c), ("sides", .ref s), ("cells", .ref l), ("coins", .ref n), ("fallen", .int f), ("held", .ref h), ("rounds", .ref u), ("place", .int p), ("result", z)]
section
variable {c s l n h u : Addr} {f p g q : Int} {z y : V}
theorem rf_code : (rf c s l n f h u p z).lookup ("code" : Str) = some (.ref c) := by kernel_rfl
theorem rf_sides : (rf c s l n f h u p z).lookup ("sides" : Str) = some (.ref s) := by kernel_rfl
theorem rf_cells : (rf c s l n f h u p z).lookup ("cells" : Str) = some (.ref l) := by kernel_rfl
theorem rf_coins : (rf c s l n f h u p z).lookup ("coins" : Str) = some (.ref n) := by kernel_rfl
theorem rf_fallen : (rf c s l n f h u p z).lookup ("fallen" : Str) = some (.int f) := by kernel_rfl
theorem rf_held : (rf c s l n f h u p z).lookup ("held" : Str) = some (.ref h) := by kernel_rfl
theorem rf_rounds : (rf c s l n f h u p z).lookup ("rounds" : Str) = some (.ref u) := by kernel_rfl
theorem rf_place : (rf c s l n f h u p z).lookup ("place" : Str) = some (.int p) := by kernel_rfl
theorem rf_result : (rf c s l n f h u p z).lookup ("result" : Str) = some z := by kernel_rfl
theorem rf_putF : putF "fallen" (.int g) (rf c s l n f h u p z) = rf c s l n g h u p z := by kernel_rfl
theorem rf_putP : putF "place" (.int q) (rf c s l n f h u p z) = rf c s l n f h u q z := by kernel_rfl
theorem rf_putR : putF "result" y (rf c s l n f h u p z) = rf c s l n f h u p y := by kernel_rfl
theorem rf_new : putF "result" .non (putF "place" (.int 0) (putF "rounds" (.ref u) (putF "held" (.ref h) (putF "fallen" (.int 0) (putF "coins" (.ref n) (putF "cells" (.ref l) (putF "sides" (.ref s) (putF "code" (.ref c) [])))))))) = rf c s l n 0 h u 0 .non := by kernel_rfl
end
/-- the coins: a list, or a tuple -/
def CoinsAt (K : PySem.W.Frag) (H : Hp) (ct : Bool) (n l u : Addr) (cs : List Int) : Prop := (ct = false ∧ H n = some (.lst (cs.map .int)) ∧ n ≠ l ∧ n ≠ u) ∨ (ct = true ∧ SqT K H n (cs.map .int))
structure RunAt (K : PySem.W.Frag) (H : Hp) (R : RA) (st : Mst) : Prop where
  ins : H R.x = some (.ins (He.ga K "Run") R.dx (rf R.c R.s R.l R.n st.fallen R.h R.u st.place (resV st.res)))
  code : Dp K H (.ref R.c) (.tuple (st.code.map FR.d))
  sides : SqT K H R.s (st.sides.map .int)
  cells : H R.l = some (.lst (st.cells.map .int))
  coins : CoinsAt K H R.ct R.n R.l R.u st.coins
  held : H R.h = some (.dK (heldK st.regs))
  rounds : H R.u = some (.lst (st.rounds.map .int))
  lu : R.l ≠ R.u
theorem codeF_noL (fs : List FR) : NoL (.tuple (fs.map FR.d)) := .tup fun d h => by
  obtain ⟨r, _, rfl⟩ := List.mem_map.mp h
  exact r.noL
theorem ne_ho {H : Hp} {a b : Addr} {o p : HO} (ha : H a = some o) (hb : H b = some p) (n : o ≠ p) : a ≠ b := fun e => n (by rw [e, hb] at ha; exact (Option.some.inj ha).symm)
theorem sqL_ne {K : PySem.W.Frag} {H H' : Hp} {D a : Addr} {xs : List V} (s : But D H H') (ne : a ≠ D) (h : SqL K H a xs) : SqL K H' a xs := by
  rcases h with (h | ⟨o, h⟩) | h
  · exact .inl (.inl (s _ _ ne h))
  · exact .inl (.inr ⟨o, s _ _ ne h⟩)
  · exact .inr h
section
variable {K : PySem.W.Frag} {H H' : Hp} {R : RA} {st : Mst}
theorem coins_but {D n l u : Addr} {ct : Bool} {cs : List Int} (hc : Ch H D) (hn : NoLst H D ∨ D = l ∨ D = u) (b : But D H H') (h : CoinsAt K H ct n l u cs) : CoinsAt K H' ct n l u cs := by
  rcases h with ⟨t, h, h1, h2⟩ | ⟨t, h⟩
  · refine .inl ⟨t, b _ _ ?_ h, h1, h2⟩
    rcases hn with hn | e | e
    · exact fun e => hn.1 _ (e ▸ h)
    · exact e ▸ h1
    · exact e ▸ h2
  · exact .inr ⟨t, sqT_but hc b h⟩
theorem CoinsAt.seq {ct : Bool} {n l u : Addr} {cs : List Int} (h : CoinsAt K H ct n l u cs) : SqL K H n (cs.map .int) ∨ SqT K H n (cs.map .int) := h.elim (fun h => .inl (.of h.2.1)) (fun h => .inr h.2)
theorem RunAt.xl (r : RunAt K H R st) : R.x ≠ R.l := ne_ho r.ins r.cells fun e => nomatch e
theorem RunAt.xh (r : RunAt K H R st) : R.x ≠ R.h := ne_ho r.ins r.held fun e => nomatch e
theorem RunAt.xu (r : RunAt K H R st) : R.x ≠ R.u := ne_ho r.ins r.rounds fun e => nomatch e
theorem RunAt.lh (r : RunAt K H R st) : R.l ≠ R.h := ne_ho r.cells r.held fun e => nomatch e
theorem RunAt.uh (r : RunAt K H R st) : R.u ≠ R.h := ne_ho r.rounds r.held fun e => nomatch e
/-- the instance is written -/
theorem RunAt.setX (r : RunAt K H R st) (f p : Int) (z : Option Int) : RunAt K (upd H R.x (.ins (He.ga K "Run") R.dx (rf R.c R.s R.l R.n f R.h R.u p (resV z)))) R { st with fallen := f, place := p, res := z } := by
  have b : But R.x H (upd H R.x (.ins (He.ga K "Run") R.dx (rf R.c R.s R.l R.n f R.h R.u p (resV z)))) := But.upd
  exact ⟨upd_same, dp_but (.ins r.ins) b r.code (codeF_noL _), sqT_but (.ins r.ins) b r.sides, b _ _ (Ne.symm r.xl) r.cells, coins_but (.ins r.ins) (.inl (.ins r.ins)) b r.coins, b _ _ (Ne.symm r.xh) r.held, b _ _ (Ne.symm r.xu) r.rounds, r.lu⟩
theorem RunAt.setL (r : RunAt K H R st) (cs : List Int) : RunAt K (upd H R.l (.lst (cs.map .int))) R { st with cells := cs } := by
  have b : But R.l H (upd H R.l (.lst (cs.map .int))) := But.upd
  exact ⟨b _ _ r.xl r.ins, dp_but (.lst r.cells) b r.code (codeF_noL _), sqT_but (.lst r.cells) b r.sides, upd_same, coins_but (.lst r.cells) (.inr (.inl rfl)) b r.coins, b _ _ (Ne.symm r.lh) r.held, b _ _ (Ne.symm r.lu) r.rounds, r.lu⟩
theorem RunAt.setU (r : RunAt K H R st) (cs : List Int) : RunAt K (upd H R.u (.lst (cs.map .int))) R { st with rounds := cs } := by
  have b : But R.u H (upd H R.u (.lst (cs.map .int))) := But.upd
  exact ⟨b _ _ r.xu r.ins, dp_but (.lst r.rounds) b r.code (codeF_noL _), sqT_but (.lst r.rounds) b r.sides, b _ _ r.lu r.cells, coins_but (.lst r.rounds) (.inr (.inr rfl)) b r.coins, b _ _ (Ne.symm r.uh) r.held, upd_same, r.lu⟩
theorem RunAt.setH (r : RunAt K H R st) (g : Str → Int) : RunAt K (upd H R.h (.dK (heldK g))) R { st with regs := g } := by
  have b : But R.h H (upd H R.h (.dK (heldK g))) := But.upd
  exact ⟨b _ _ r.xh r.ins, dp_but (.dK r.held) b r.code (codeF_noL _), sqT_but (.dK r.held) b r.sides, b _ _ r.lh r.cells, coins_but (.dK r.held) (.inl (.dK r.held)) b r.coins, upd_same, b _ _ r.uh r.rounds, r.lu⟩
/-- what is new does not matter -/
theorem RunAt.same (s : Same H H') (r : RunAt K H R st) : RunAt K H' R st := ⟨s _ _ r.ins, dp_same s r.code, same_t s r.sides, s _ _ r.cells, r.coins.elim (fun h => .inl ⟨h.1, s _ _ h.2.1, h.2.2⟩) (fun h => .inr ⟨h.1, same_t s h.2⟩), s _ _ r.held, s _ _ r.rounds, r.lu⟩
/-- what is none of its own does not matter -/
theorem RunAt.butD {D : Addr} (hc : Ch H D) (dx : D ≠ R.x) (dl : D ≠ R.l) (dh : D ≠ R.h) (du : D ≠ R.u) (dn : R.ct = false → D ≠ R.n) (b : But D H H') (r : RunAt K H R st) : RunAt K H' R st := ⟨b _ _ (Ne.symm dx) r.ins, dp_but hc b r.code (codeF_noL _), sqT_but hc b r.sides, b _ _ (Ne.symm dl) r.cells,
  r.coins.elim (fun h => .inl ⟨h.1, b _ _ (Ne.symm (dn h.1)) h.2.1, h.2.2⟩) (fun h => .inr ⟨h.1, sqT_but hc b h.2⟩), b _ _ (Ne.symm dh) r.held, b _ _ (Ne.symm du) r.rounds, r.lu⟩
/-- all but the run's own is as it was -/
def Bt (R : RA) (H H' : Hp) : Prop := ∀ b o, b ≠ R.x → b ≠ R.l → b ≠ R.h → b ≠ R.u → H b = some o → H' b = some o
theorem Bt.refl (R : RA) (H : Hp) : Bt R H H := fun _ _ _ _ _ _ e => e
theorem Bt.trans {H1 H2 H3 : Hp} (s : Bt R H1 H2) (t : Bt R H2 H3) : Bt R H1 H3 := fun b o h1 h2 h3 h4 e => t b o h1 h2 h3 h4 (s b o h1 h2 h3 h4 e)
theorem Bt.x (s : But R.x H H') : Bt R H H' := fun b o h _ _ _ e => s b o h e
theorem Bt.l (s : But R.l H H') : Bt R H H' := fun b o _ h _ _ e => s b o h e
theorem Bt.h (s : But R.h H H') : Bt R H H' := fun b o _ _ h _ e => s b o h e
theorem Bt.u (s : But R.u H H') : Bt R H H' := fun b o _ _ _ h e => s b o h e
end
/-- a call under way, at its beginning -/
def mst0 (code : List FR) (sides cells coins : List Int) (a : Int) : Mst := ⟨code, sides, cells, coins, 0, r0 a, [], 0, none⟩
section
variable {P : Program} {w : World} {K : PySem.W.Frag} {mg : Str → Option Value} {base : Heap}
def spRun (K : PySem.W.Frag) : Sp := fun vs H Q _ => ∃ (p dx y s l n : Addr) (ct : Bool) (code : List FR) (sides cells coins : List Int) (a : Int), vs = [.ref p, .ref y, .ref s, .ref l, .ref n] ∧ H p = some (.ins (He.ga K "Run") dx []) ∧ Dp K H (.ref y) (.tuple [.tuple (code.map FR.d), .int a]) ∧
  SqT K H s (sides.map .int) ∧ H l = some (.lst (cells.map .int)) ∧ ((ct = false ∧ H n = some (.lst (coins.map .int)) ∧ n ≠ l) ∨ (ct = true ∧ SqT K H n (coins.map .int))) ∧
  ∀ (R : RA) (H' : Hp), R.x = p → R.l = l → R.ct = ct → R.n = n → H R.h = none → H R.u = none → But p H H' → RunAt K H' R (mst0 code sides cells coins a) → Q .non H'
theorem ma_Run (T : Txt w K mg) : Ma P w K mg base 1 "Run" (He.ga K "Run") (spRun K) := by
  refine ma_of (N := ["self", "start", "sizes", "cells", "coins"]) (ps := ["self", "start", "sizes", "cells", "coins"]) T.f_Run_init T.g_Run T.k_Run ⟨rfl, rfl, rfl, by decide +kernel, rfl, by decide +kernel, by decide +kernel⟩ (fun _ _ _ _ _ _ us hl => match us, hl with | [_, _, _, _, _], _ => rfl)
    (fun vs H Q E h => by obtain ⟨p, dx, y, s, l, n, ct, code, sides, cells, coins, a, rfl, hp, hy, hs, hl, hn, q⟩ := h; rfl) (fun cdv A outer s H vs Q E hr h => ?_)
  have nd : (["self", "start", "sizes", "cells", "coins"] : List Str).Nodup := by decide +kernel
  obtain ⟨p, dx, y, s, l, n, ct, code, sides, cells, coins, a, rfl, hp, hy, hs, hl, hn, q⟩ := h
  refine ⟨_, (pss_cons (ps_fld (pv 0) (pe_ix ix_tup (pv 1) pe_int (fun _ _ => rfl)) rfl)
      (pss_cons (ps_fld (pv 0) (pv 2) rfl)
      (pss_cons (ps_fld (pv 0) (pv 3) rfl)
      (pss_cons (ps_fld (pv 0) (pv 4) rfl)
      (pss_cons (ps_fld (pv 0) pe_int rfl)
      (pss_cons (ps_fld (pv 0) (pe_disp (pps_cons pe_str pe_int (pps_cons pe_str pe_int (pps_cons pe_str pe_int (pps_cons pe_str pe_int (pps_cons pe_str (pe_ix ix_tup (pv 1) pe_int (fun _ _ => rfl)) pps_nil))))) rfl rfl (List.cons_ne_nil _ _) (by decide)) rfl)
      (pss_cons (ps_fld (pv 0) (pe_lst pa_nil) rfl)
      (pss_cons (ps_fld (pv 0) pe_int rfl)
      (pss_one (ps_fld (pv 0) pe_non rfl)))))))))), ?_⟩
  obtain ⟨ya, c0, a0, ey, hya, hc0, ha0⟩ := dp2 hy
  cases ey
  obtain ⟨c, cs, ec, hcs, hcd⟩ := dp_tup hc0
  cases ec
  cases dp_int ha0
  have np : NoLst H p := .ins hp
  have cp : Ch H p := .ins hp
  refine ⟨_, rfl, _, _, _, _, rfl, rfl, hya, at0, _, rfl, p, _, dx, _, rfl, hp, T.c_Run, T.n_Run_code, (by show 0 < 1000; decide), ?_⟩
  refine ⟨_, rfl, _, rfl, p, _, dx, _, rfl, upd_same, T.c_Run, T.n_Run_sides, (by show 1 < 1000; decide), ?_⟩
  refine ⟨_, rfl, _, rfl, p, _, dx, _, rfl, upd_same, T.c_Run, T.n_Run_cells, (by show 2 < 1000; decide), ?_⟩
  refine ⟨_, rfl, _, rfl, p, _, dx, _, rfl, upd_same, T.c_Run, T.n_Run_coins, (by show 3 < 1000; decide), ?_⟩
  refine ⟨_, rfl, p, _, dx, _, rfl, upd_same, T.c_Run, T.n_Run_fallen, (by show 4 < 1000; decide), ?_⟩
  rw [upd_upd, upd_upd, upd_upd, upd_upd]
  generalize eH : upd H p (.ins (He.ga K "Run") dx (putF "fallen" (.int 0) (putF "coins" (.ref n) (putF "cells" (.ref l) (putF "sides" (.ref s) (putF "code" (.ref c) [])))))) = Hc
  have b0 : But p H Hc := eH ▸ But.upd
  have hpc : Hc p = some (.ins (He.ga K "Run") dx (putF "fallen" (.int 0) (putF "coins" (.ref n) (putF "cells" (.ref l) (putF "sides" (.ref s) (putF "code" (.ref c) [])))))) := by rw [← eH, upd_same]
  refine fun hd nhd => ?_
  have s1 : Same Hc (upd Hc hd (.dK [])) := same_new nhd
  have hdp : hd ≠ p := fun e => by rw [e, hpc] at nhd; cases nhd
  refine ⟨_, rfl, _, _, _, _, rfl, rfl, same_t s1 (sqT_but cp b0 hya), at1, upd_same, [kS "a" (.int 0), kS "b" (.int 0), kS "c" (.int 0), kS "d" (.int 0), kS "x" (.int a)], rfl, (by show 5 ≤ 15; decide), ?_⟩
  rw [upd_upd, held_disp]
  generalize eH2 : upd Hc hd (.dK (heldK (r0 a))) = H2
  have s2 : Same Hc H2 := eH2 ▸ same_new nhd
  have hh2 : H2 hd = some (.dK (heldK (r0 a))) := by rw [← eH2, upd_same]
  refine ⟨_, rfl, p, _, dx, _, rfl, s2 _ _ hpc, T.c_Run, T.n_Run_held, (by show 5 < 1000; decide), ?_⟩
  refine ⟨(by show 0 ≤ sizeLine; exact Nat.zero_le _), fun u nu => ?_⟩
  have hup : u ≠ p := fun e => by rw [e, upd_same] at nu; cases nu
  have nu2 : H2 u = none := by rw [upd_ne hup] at nu; exact nu
  have huh : u ≠ hd := fun e => by rw [e, hh2] at nu2; cases nu2
  refine ⟨_, rfl, p, _, dx, _, rfl, (upd_ne (Ne.symm hup)).trans upd_same, T.c_Run, T.n_Run_rounds, (by show 6 < 1000; decide), ?_⟩
  refine ⟨_, rfl, p, _, dx, _, rfl, upd_same, T.c_Run, T.n_Run_place, (by show 7 < 1000; decide), ?_⟩
  refine ⟨_, rfl, p, _, dx, _, rfl, upd_same, T.c_Run, T.n_Run_result, (by show 8 < 1000; decide), ?_⟩
  rw [upd_upd, upd_upd, rf_new]
  generalize eH3 : upd (upd (upd H2 p (.ins (He.ga K "Run") dx (putF "held" (.ref hd) (putF "fallen" (.int 0) (putF "coins" (.ref n) (putF "cells" (.ref l) (putF "sides" (.ref s) (putF "code" (.ref c) [])))))))) u (.lst [])) p (.ins (He.ga K "Run") dx (rf c s l n 0 hd u 0 .non)) = H3
  have b3 : But p H2 H3 := by
    rw [← eH3]
    intro b o hb e
    rw [upd_ne hb, upd_ne (ne_of_none e nu2), upd_ne hb]
    exact e
  have b : But p H H3 := (b0.trans (same_but s2)).trans b3
  have hlp : l ≠ p := ne_ho hl hp fun e => nomatch e
  have hu0 : H u = none := by
    cases e : H u with
    | none => rfl
    | some o =>
      have := s2 _ _ (b0 _ _ hup e)
      rw [nu2] at this
      cases this
  have hh0 : H hd = none := by
    cases e : H hd with
    | none => rfl
    | some o =>
      have := b0 _ _ hdp e
      rw [nhd] at this
      cases this
  refine q ⟨p, dx, c, s, l, n, hd, u, ct⟩ H3 rfl rfl rfl rfl hh0 hu0 b ⟨by rw [← eH3, upd_same]; rfl, dp_but cp b (.tup hcs hcd) (codeF_noL code), sqT_but cp b hs, b _ _ hlp hl, ?_, b3 _ _ hdp hh2, by rw [← eH3, upd_ne hup, upd_same]; rfl, ne_of_none hl hu0⟩
  rcases hn with ⟨t, hn, nl⟩ | ⟨t, hn⟩
  · exact .inl ⟨t, b _ _ (ne_ho hn hp fun e => nomatch e) hn, nl, ne_of_none hn hu0⟩
  · exact .inr ⟨t, sqT_but cp b hn⟩
end

end M

set_option Elab.async false
set_option linter.all false
set_option maxRecDepth 100000
set_option maxHeartbeats 2000000
namespace M
open PySem PySem.Spec PyProof.Rows L2

/-- the def x of the module, its parameters told -/
structure Cf (P : Program) (w : World) (K : PySem.W.Frag) (mg : Str → Option Value) (base : Heap) (k : Nat) (x : Str) (ps : List Str) (sp : Sp) : Prop where
  ex : ∃ (fd : FuncData) (oc : Value) (od : Option Addr) (osl : Array (Option Value)), K.lookup (He.ga K x) = some ⟨oc, od, .func fd, osl⟩ ∧ FnOk P w K mg base CX0 k (He.ga K x) fd ps sp ∧ PySem.W.keepIn K (.ref (He.ga K x)) = true ∧ Binds K fd ps []
  g : mg x = some (.ref (He.ga K x))
theorem cf_of {P : Program} {w : World} {K : PySem.W.Frag} {mg : Str → Option Value} {base : Heap} {x : Str} {st : Stmt} {N ps : List Str} {k : Nat} {sp : Sp} (F : ∃ fd, FunD K x x (defArgs st) (defBody st) (defScope st) [] [] (He.fAd K (x, none)) fd) (g : mg x = some (.ref (He.ga K x))) (S : FnScope N ps (defScope st)) (hb : BindsH x x st ps)
    (len : ∀ vs H Q E, sp vs H Q E → vs.length = ps.length) (hbody : BodyH P w K mg base x st N k (He.fAd K (x, none)) sp) : Cf P w K mg base (k + 1) x ps sp := by
  obtain ⟨fd, F⟩ := F
  obtain ⟨oc, od, dV, kV, doc, pm, an, cdv, ct, osl, e, lk, _⟩ := F.ex
  exact ⟨⟨fd, oc, od, osl, lk, fn_d F S len hbody, F.kp, F.bindsN hb⟩, g⟩
theorem Cf.mono {P : Program} {w : World} {K : PySem.W.Frag} {mg : Str → Option Value} {base : Heap} {x : Str} {ps : List Str} {j k : Nat} {sp : Sp} (c : Cf P w K mg base j x ps sp) (h : j ≤ k) : Cf P w K mg base k x ps sp := by
  obtain ⟨fd, oc, od, osl, lk, F, r⟩ := c.ex
  exact ⟨⟨fd, oc, od, osl, lk, F.mono h, r⟩, c.g⟩
/-! ### one row is done -/
def FOk (n : Nat) : FR → Prop
  | .row (.read r k) => r ∈ regs4 ∧ 0 ≤ k ∧ k < n
  | .row (.set k e) => (0 ≤ k ∧ k < n) ∧ e.good
  | .row (.swap r k e f) => r ∈ regs4 ∧ (0 ≤ k ∧ k < n) ∧ e.good ∧ f.good
  | .row (.keep r e) => r ∈ regs4 ∧ e.good
  | .row (.coin r) => r ∈ regs4
  | .row (.ans e) => e.good
  | .row _ => False
  | .unless e _ => e.good
  | .on _ => True
  | .rounds e => e.good
  | .round _ => True
  | .hole => False
def stp1 : FR → Mst → Mst
  | .row (.read r k), st => { st with regs := rset st.regs r (st.cells.getD k.toNat 0) }
  | .row (.set k e), st => { st with cells := st.cells.set k.toNat (e.ev st.regs % st.sides.getD k.toNat 0) }
  | .row (.swap r k e f), st => if st.cells.getD k.toNat 0 = e.ev st.regs then { st with cells := st.cells.set k.toNat (f.ev st.regs % st.sides.getD k.toNat 0), regs := rset st.regs r 1 } else { st with regs := rset st.regs r 0 }
  | .row (.keep r e), st => { st with regs := rset st.regs r (e.ev st.regs) }
  | .row (.coin r), st => { st with regs := rset st.regs r (st.coins.getD st.fallen.toNat 0), fallen := st.fallen + 1 }
  | .row (.ans e), st => { st with res := some (e.ev st.regs) }
  | .row _, st => st
  | .unless e p, st => if e.ev st.regs = 0 then { st with place := p } else st
  | .on p, st => { st with place := p }
  | .rounds e, st => { st with rounds := st.rounds ++ [e.ev st.regs] }
  | .round p, st => if st.rounds.getLast?.getD 0 = 0 then { st with rounds := st.rounds.dropLast, place := p } else { st with rounds := st.rounds.dropLast ++ [st.rounds.getLast?.getD 0 - 1] }
  | .hole, st => st
def Can : FR → Mst → Prop
  | .row (.coin _), st => 0 ≤ st.fallen ∧ st.fallen < st.coins.length
  | .rounds _, st => st.rounds.length < 9
  | .round _, st => st.rounds ≠ []
  | _, _ => True
structure MOk (st : Mst) : Prop where
  rg : RegOk st.regs
  cl : ∀ c ∈ st.cells, 0 ≤ c ∧ c ≤ 8
  sd : ∀ s ∈ st.sides, 1 ≤ s ∧ s ≤ 9
  le : st.sides.length = st.cells.length
  l6 : st.cells.length ≤ 6
  fd : ∀ f ∈ st.code, FOk st.cells.length f
  co : ∀ c ∈ st.coins, 0 ≤ c ∧ c ≤ 1
theorem getD_mem {l : List Int} {i : Nat} {d : Int} (h : i < l.length) : l.getD i d ∈ l := by
  rw [List.getD_eq_getElem?_getD, List.getElem?_eq_getElem h]
  exact List.getElem_mem h
theorem atK {l : List Int} {k : Int} {n : Nat} (h0 : 0 ≤ k) (hk : k < n) (hn : l.length = n) : atI (l.map V.int) k = some (.int (l.getD k.toNat 0)) := by
  have e : ((k.toNat : Nat) : Int) = k := Int.toNat_of_nonneg h0
  have hl : k.toNat < l.length := by omega
  have := atI_nat (xs := l.map V.int) (j := k.toNat) (v := .int (l.getD k.toNat 0)) (by
    rw [List.getElem?_map, List.getD_eq_getElem?_getD, List.getElem?_eq_getElem hl]
    rfl)
  rw [e] at this
  exact this
theorem ixK {k : Int} {n : Nat} (h0 : 0 ≤ k) (hk : k < n) : ixN n k = some k.toNat := by
  have e : ((k.toNat : Nat) : Int) = k := Int.toNat_of_nonneg h0
  have := Evl.ixN_nat (n := n) (j := k.toNat) (by omega)
  rw [e] at this
  exact this
theorem setI (l : List Int) (i : Nat) (v : Int) : (l.map V.int).set i (.int v) = (l.set i v).map V.int := by rw [List.map_set]
section
variable {P : Program} {w : World} {K : PySem.W.Frag} {mg : Str → Option Value} {base : Heap}
def spDo (K : PySem.W.Frag) (p : FR → Prop) : Sp := fun vs H Q _ => ∃ (R : RA) (y : V) (f : FR) (st : Mst), vs = [.ref R.x, y] ∧ RunAt K H R st ∧ MOk st ∧ Dp K H y f.d ∧ p f ∧ FOk st.cells.length f ∧ Can f st ∧ ∀ H', Bt R H H' → RunAt K H' R (stp1 f st) → Q .non H'
theorem cf_do_read (T : Txt w K mg) : Cf P w K mg base 1 "do_read" ["run", "row"] (spDo K (fun f => ∃ r k, f = .row (.read r k))) := by
  refine cf_of (N := ["run", "row"]) (ps := ["run", "row"]) T.f_do_read T.g_do_read ⟨rfl, rfl, rfl, by decide +kernel, rfl, by decide +kernel, by decide +kernel⟩ (fun _ _ _ _ _ _ us hl => match us, hl with | [_, _], _ => rfl)
    (fun vs H Q E h => by obtain ⟨R, y, f, st, rfl, r, m, hv, ⟨rg, k, rfl⟩, ok, can, q⟩ := h; rfl) (fun cdv A outer s H vs Q E hr h => ?_)
  have nd : (["run", "row"] : List Str).Nodup := by decide +kernel
  obtain ⟨R, y, f, st, rfl, r, m, hv, ⟨rg, k, rfl⟩, ok, can, q⟩ := h
  refine ⟨_, (pss_one (ps_dput (hu_of hr) (pe_fld (pv 0) rfl) (pe_ix ix_tup (pv 1) pe_int (fun _ _ => rfl)) (pe_ix ix_list (pe_fld (pv 0) rfl) (pe_ix ix_tup (pv 1) pe_int (fun _ _ => rfl)) (fun _ _ => rfl)) rfl)), ?_⟩
  obtain ⟨a, x1, x2, x3, rfl, ha, e1, e2, e3⟩ := dp3 hv
  cases dp_str e2
  cases dp_int e3
  obtain ⟨o1, o2, o3⟩ := ok
  refine ⟨_, rfl, R.x, _, R.dx, _, _, rfl, r.ins, T.c_Run, T.n_Run_cells, rf_cells, _, rfl, _, _, _, _, rfl, rfl, ha, at2, _, _, _, _, rfl, rfl, .of r.cells, atK o2 o3 rfl, ?_⟩
  refine ⟨_, rfl, R.x, _, R.dx, _, _, rfl, r.ins, T.c_Run, T.n_Run_held, rf_held, _, rfl, _, _, _, _, rfl, rfl, ha, at1, R.h, _, rfl, DPut.k (k := Sum.inr rg) r.held (by show 5 < sizeLine; decide), ?_⟩
  rw [held_put (in45 o1)]
  exact q _ (Bt.h But.upd) (r.setH _)
theorem cf_do_set (T : Txt w K mg) : Cf P w K mg base 9 "do_set" ["run", "row"] (spDo K (fun f => ∃ k e, f = .row (.set k e))) := by
  refine cf_of (N := ["run", "row", "cell"]) (ps := ["run", "row"]) T.f_do_set T.g_do_set ⟨rfl, rfl, rfl, by decide +kernel, rfl, by decide +kernel, by decide +kernel⟩ (fun _ _ _ _ _ _ us hl => match us, hl with | [_, _], _ => rfl)
    (fun vs H Q E h => by obtain ⟨R, y, f, st, rfl, r, m, hv, ⟨k, e, rfl⟩, ok, can, q⟩ := h; rfl) (fun cdv A outer s H vs Q E hr h => ?_)
  have nd : (["run", "row", "cell"] : List Str).Nodup := by decide +kernel
  obtain ⟨R, y, f, st, rfl, r, m, hv, ⟨k, e, rfl⟩, ok, can, q⟩ := h
  refine ⟨_, (pss_cons (ps_set (i := 2) nd rfl (.inl rfl) (pe_ix ix_tup (pv 1) pe_int (fun _ _ => rfl)))
      (pss_one (ps_asg (pe_op op_mod (pe_ca (ca_value_of 7 T) hr (pa_cons (pe_ix ix_tup (pv 1) pe_int (fun _ _ => rfl)) (pa_cons (pe_fld (pv 0) rfl) pa_nil))) (pe_ix ix_tup (pe_fld (pv 0) rfl) (pv 2) (fun _ _ => rfl))) (pg_sub (pe_fld (pv 0) rfl) (pv 2) set_list)))), ?_⟩
  obtain ⟨a, x1, x2, x3, rfl, ha, e1, e2, e3⟩ := dp3 hv
  cases dp_int e2
  obtain ⟨⟨o1, o2⟩, o3, o4⟩ := ok
  have o2' : k < st.sides.length := by rw [m.le]; exact o2
  refine ⟨_, rfl, _, _, _, _, rfl, rfl, ha, at1, ?_⟩
  refine ⟨_, rfl, _, _, _, _, rfl, rfl, ha, at2, _, rfl, R.x, _, R.dx, _, _, rfl, r.ins, T.c_Run, T.n_Run_held, rf_held, x3, e, R.h, st.regs, rfl, e3, o3, by omega, r.held, m.rg, ?_⟩
  refine ⟨_, rfl, R.x, _, R.dx, _, _, rfl, r.ins, T.c_Run, T.n_Run_sides, rf_sides, _, rfl, _, _, _, _, rfl, rfl, r.sides, atK o1 o2' rfl, _, _, rfl, rfl, ?_, ?_⟩
  · have := m.sd _ (getD_mem (l := st.sides) (i := k.toNat) (d := 0) (by omega))
    show (0 : Int) < _
    omega
  refine ⟨_, rfl, R.x, _, R.dx, _, _, rfl, r.ins, T.c_Run, T.n_Run_cells, rf_cells, _, rfl, R.l, _, _, k.toNat, rfl, rfl, r.cells, by rw [List.length_map]; exact ixK o1 o2, ?_⟩
  rw [setI]
  exact q _ (Bt.l But.upd) (r.setL _)
theorem cf_do_keep (T : Txt w K mg) : Cf P w K mg base 9 "do_keep" ["run", "row"] (spDo K (fun f => ∃ r e, f = .row (.keep r e))) := by
  refine cf_of (N := ["run", "row"]) (ps := ["run", "row"]) T.f_do_keep T.g_do_keep ⟨rfl, rfl, rfl, by decide +kernel, rfl, by decide +kernel, by decide +kernel⟩ (fun _ _ _ _ _ _ us hl => match us, hl with | [_, _], _ => rfl)
    (fun vs H Q E h => by obtain ⟨R, y, f, st, rfl, r, m, hv, ⟨rg, e, rfl⟩, ok, can, q⟩ := h; rfl) (fun cdv A outer s H vs Q E hr h => ?_)
  have nd : (["run", "row"] : List Str).Nodup := by decide +kernel
  obtain ⟨R, y, f, st, rfl, r, m, hv, ⟨rg, e, rfl⟩, ok, can, q⟩ := h
  refine ⟨_, (pss_one (ps_dput (hu_of hr) (pe_fld (pv 0) rfl) (pe_ix ix_tup (pv 1) pe_int (fun _ _ => rfl)) (pe_ca (ca_value_of 7 T) hr (pa_cons (pe_ix ix_tup (pv 1) pe_int (fun _ _ => rfl)) (pa_cons (pe_fld (pv 0) rfl) pa_nil))) rfl)), ?_⟩
  obtain ⟨a, x1, x2, x3, rfl, ha, e1, e2, e3⟩ := dp3 hv
  cases dp_str e2
  obtain ⟨o1, o2, o3⟩ := ok
  refine ⟨_, rfl, _, _, _, _, rfl, rfl, ha, at2, _, rfl, R.x, _, R.dx, _, _, rfl, r.ins, T.c_Run, T.n_Run_held, rf_held, x3, e, R.h, st.regs, rfl, e3, o2, by omega, r.held, m.rg, ?_⟩
  refine ⟨_, rfl, R.x, _, R.dx, _, _, rfl, r.ins, T.c_Run, T.n_Run_held, rf_held, _, rfl, _, _, _, _, rfl, rfl, ha, at1, R.h, _, rfl, DPut.k (k := Sum.inr rg) r.held (by show 5 < sizeLine; decide), ?_⟩
  rw [held_put (in45 o1)]
  exact q _ (Bt.h But.upd) (r.setH _)
theorem cf_do_answer (T : Txt w K mg) : Cf P w K mg base 9 "do_answer" ["run", "row"] (spDo K (fun f => ∃ e, f = .row (.ans e))) := by
  refine cf_of (N := ["run", "row"]) (ps := ["run", "row"]) T.f_do_answer T.g_do_answer ⟨rfl, rfl, rfl, by decide +kernel, rfl, by decide +kernel, by decide +kernel⟩ (fun _ _ _ _ _ _ us hl => match us, hl with | [_, _], _ => rfl)
    (fun vs H Q E h => by obtain ⟨R, y, f, st, rfl, r, m, hv, ⟨e, rfl⟩, ok, can, q⟩ := h; rfl) (fun cdv A outer s H vs Q E hr h => ?_)
  have nd : (["run", "row"] : List Str).Nodup := by decide +kernel
  obtain ⟨R, y, f, st, rfl, r, m, hv, ⟨e, rfl⟩, ok, can, q⟩ := h
  refine ⟨_, (pss_one (ps_fld (pv 0) (pe_ca (ca_value_of 7 T) hr (pa_cons (pe_ix ix_tup (pv 1) pe_int (fun _ _ => rfl)) (pa_cons (pe_fld (pv 0) rfl) pa_nil))) rfl)), ?_⟩
  obtain ⟨a, x1, x2, rfl, ha, e1, e2⟩ := dp2 hv
  obtain ⟨o2, o3⟩ := ok
  refine ⟨_, rfl, _, _, _, _, rfl, rfl, ha, at1, _, rfl, R.x, _, R.dx, _, _, rfl, r.ins, T.c_Run, T.n_Run_held, rf_held, x2, e, R.h, st.regs, rfl, e2, o2, by omega, r.held, m.rg, ?_⟩
  refine ⟨_, rfl, R.x, _, R.dx, _, rfl, r.ins, T.c_Run, T.n_Run_result, (by show 9 < 1000; decide), ?_⟩
  rw [rf_putR]
  exact q _ (Bt.x But.upd) (r.setX st.fallen st.place (some (e.ev st.regs)))
theorem cf_do_unless (T : Txt w K mg) : Cf P w K mg base 9 "do_unless" ["run", "row"] (spDo K (fun f => ∃ e p, f = .unless e p)) := by
  refine cf_of (N := ["run", "row"]) (ps := ["run", "row"]) T.f_do_unless T.g_do_unless ⟨rfl, rfl, rfl, by decide +kernel, rfl, by decide +kernel, by decide +kernel⟩ (fun _ _ _ _ _ _ us hl => match us, hl with | [_, _], _ => rfl)
    (fun vs H Q E h => by obtain ⟨R, y, f, st, rfl, r, m, hv, ⟨e, p, rfl⟩, ok, can, q⟩ := h; rfl) (fun cdv A outer s H vs Q E hr h => ?_)
  have nd : (["run", "row"] : List Str).Nodup := by decide +kernel
  obtain ⟨R, y, f, st, rfl, r, m, hv, ⟨e, p, rfl⟩, ok, can, q⟩ := h
  refine ⟨_, (pss_one (ps_if (pt_cmpR op_eq (pe_ca (ca_value_of 7 T) hr (pa_cons (pe_ix ix_tup (pv 1) pe_int (fun _ _ => rfl)) (pa_cons (pe_fld (pv 0) rfl) pa_nil))) pe_int (nomark _)) (pss_one (ps_fld (pv 0) (pe_ix ix_tup (pv 1) pe_int (fun _ _ => rfl)) rfl)) pss_nil)), ?_⟩
  obtain ⟨a, x1, x2, x3, rfl, ha, e1, e2, e3⟩ := dp3 hv
  cases dp_int e3
  obtain ⟨o2, o3⟩ := ok
  refine ⟨_, rfl, _, _, _, _, rfl, rfl, ha, at1, _, rfl, R.x, _, R.dx, _, _, rfl, r.ins, T.c_Run, T.n_Run_held, rf_held, x2, e, R.h, st.regs, rfl, e2, o2, by omega, r.held, m.rg, rfl, _, rfl, ?_⟩
  by_cases c : e.ev st.regs = 0
  · rw [decide_eq_true (show V.int (e.ev st.regs) = V.int 0 from congrArg V.int c)]
    refine iteT ⟨_, rfl, _, _, _, _, rfl, rfl, ha, at2, ?_⟩
    refine ⟨_, rfl, R.x, _, R.dx, _, rfl, r.ins, T.c_Run, T.n_Run_place, (by show 9 < 1000; decide), ?_⟩
    rw [rf_putP]
    refine q _ (Bt.x But.upd) (show RunAt K _ R (if e.ev st.regs = 0 then { st with place := (p : Int) } else st) from ?_)
    rw [if_pos c]
    exact r.setX st.fallen p st.res
  · rw [decide_eq_false (show ¬ V.int (e.ev st.regs) = V.int 0 from fun z => c (V.int.inj z))]
    refine iteF (q _ (Bt.refl R H) (show RunAt K _ R (if e.ev st.regs = 0 then { st with place := (p : Int) } else st) from ?_))
    rw [if_neg c]
    exact r
theorem cf_do_on (T : Txt w K mg) : Cf P w K mg base 1 "do_on" ["run", "row"] (spDo K (fun f => ∃ p, f = .on p)) := by
  refine cf_of (N := ["run", "row"]) (ps := ["run", "row"]) T.f_do_on T.g_do_on ⟨rfl, rfl, rfl, by decide +kernel, rfl, by decide +kernel, by decide +kernel⟩ (fun _ _ _ _ _ _ us hl => match us, hl with | [_, _], _ => rfl)
    (fun vs H Q E h => by obtain ⟨R, y, f, st, rfl, r, m, hv, ⟨p, rfl⟩, ok, can, q⟩ := h; rfl) (fun cdv A outer s H vs Q E hr h => ?_)
  have nd : (["run", "row"] : List Str).Nodup := by decide +kernel
  obtain ⟨R, y, f, st, rfl, r, m, hv, ⟨p, rfl⟩, ok, can, q⟩ := h
  refine ⟨_, (pss_one (ps_fld (pv 0) (pe_ix ix_tup (pv 1) pe_int (fun _ _ => rfl)) rfl)), ?_⟩
  obtain ⟨a, x1, x2, rfl, ha, e1, e2⟩ := dp2 hv
  cases dp_int e2
  refine ⟨_, rfl, _, _, _, _, rfl, rfl, ha, at1, ?_⟩
  refine ⟨_, rfl, R.x, _, R.dx, _, rfl, r.ins, T.c_Run, T.n_Run_place, (by show 9 < 1000; decide), ?_⟩
  rw [rf_putP]
  exact q _ (Bt.x But.upd) (r.setX st.fallen p st.res)
theorem cf_do_swap (T : Txt w K mg) : Cf P w K mg base 9 "do_swap" ["run", "row"] (spDo K (fun f => ∃ r k e g, f = .row (.swap r k e g))) := by
  refine cf_of (N := ["run", "row", "cell", "old", "new"]) (ps := ["run", "row"]) T.f_do_swap T.g_do_swap ⟨rfl, rfl, rfl, by decide +kernel, rfl, by decide +kernel, by decide +kernel⟩ (fun _ _ _ _ _ _ us hl => match us, hl with | [_, _], _ => rfl)
    (fun vs H Q E h => by obtain ⟨R, y, f, st, rfl, r, m, hv, ⟨rg, k, e, g, rfl⟩, ok, can, q⟩ := h; rfl) (fun cdv A outer s H vs Q E hr h => ?_)
  have nd : (["run", "row", "cell", "old", "new"] : List Str).Nodup := by decide +kernel
  obtain ⟨R, y, f, st, rfl, r, m, hv, ⟨rg, k, e, g, rfl⟩, ok, can, q⟩ := h
  refine ⟨_, (pss_cons (ps_set (i := 2) nd rfl (.inl rfl) (pe_ix ix_tup (pv 1) pe_int (fun _ _ => rfl)))
      (pss_cons (ps_set (i := 3) nd rfl (.inl rfl) (pe_ca (ca_value_of 7 T) hr (pa_cons (pe_ix ix_tup (pv 1) pe_int (fun _ _ => rfl)) (pa_cons (pe_fld (pv 0) rfl) pa_nil))))
      (pss_cons (ps_set (i := 4) nd rfl (.inl rfl) (pe_ca (ca_value_of 7 T) hr (pa_cons (pe_ix ix_tup (pv 1) pe_int (fun _ _ => rfl)) (pa_cons (pe_fld (pv 0) rfl) pa_nil))))
      (pss_one (ps_if (pt_cmpR op_eq (pe_ix ix_list (pe_fld (pv 0) rfl) (pv 2) (fun _ _ => rfl)) (pv 3) (nomark _)) (pss_cons (ps_asg (pe_op op_mod (pv 4) (pe_ix ix_tup (pe_fld (pv 0) rfl) (pv 2) (fun _ _ => rfl))) (pg_sub (pe_fld (pv 0) rfl) (pv 2) set_list))
      (pss_one (ps_dput (hu_of hr) (pe_fld (pv 0) rfl) (pe_ix ix_tup (pv 1) pe_int (fun _ _ => rfl)) pe_int rfl))) (pss_one (ps_dput (hu_of hr) (pe_fld (pv 0) rfl) (pe_ix ix_tup (pv 1) pe_int (fun _ _ => rfl)) pe_int rfl))))))), ?_⟩
  obtain ⟨a, xs, rfl, ha, hxs⟩ := dp_tup hv
  cases hxs with | cons e1 hxs => cases hxs with | cons e2 hxs => cases hxs with | cons e3 hxs => cases hxs with | cons e4 hxs => cases hxs with | cons e5 hxs => cases hxs with | nil =>
  cases dp_str e2
  cases dp_int e3
  obtain ⟨o0, ⟨o1, o2⟩, ⟨o3, o4⟩, o5, o6⟩ := ok
  have o2' : k < st.sides.length := by rw [m.le]; exact o2
  refine ⟨_, rfl, _, _, _, _, rfl, rfl, ha, at2, ?_⟩
  refine ⟨_, rfl, _, _, _, _, rfl, rfl, ha, at3, _, rfl, R.x, _, R.dx, _, _, rfl, r.ins, T.c_Run, T.n_Run_held, rf_held, _, e, R.h, st.regs, rfl, e4, o3, by omega, r.held, m.rg, ?_⟩
  refine ⟨_, rfl, _, _, _, _, rfl, rfl, ha, at4, _, rfl, R.x, _, R.dx, _, _, rfl, r.ins, T.c_Run, T.n_Run_held, rf_held, _, g, R.h, st.regs, rfl, e5, o5, by omega, r.held, m.rg, ?_⟩
  refine ⟨_, rfl, R.x, _, R.dx, _, _, rfl, r.ins, T.c_Run, T.n_Run_cells, rf_cells, _, rfl, _, _, _, _, rfl, rfl, .of r.cells, atK o1 o2 rfl, ?_⟩
  refine ⟨_, rfl, rfl, _, rfl, ?_⟩
  by_cases c : st.cells.getD k.toNat 0 = e.ev st.regs
  · rw [decide_eq_true (show V.int (st.cells.getD k.toNat 0) = V.int (e.ev st.regs) from congrArg V.int c)]
    refine iteT ?_
    refine ⟨_, rfl, _, rfl, R.x, _, R.dx, _, _, rfl, r.ins, T.c_Run, T.n_Run_sides, rf_sides, _, rfl, _, _, _, _, rfl, rfl, r.sides, atK o1 o2' rfl, _, _, rfl, rfl, ?_, ?_⟩
    · have := m.sd _ (getD_mem (l := st.sides) (i := k.toNat) (d := 0) (by omega))
      show (0 : Int) < _
      omega
    refine ⟨_, rfl, R.x, _, R.dx, _, _, rfl, r.ins, T.c_Run, T.n_Run_cells, rf_cells, _, rfl, R.l, _, _, k.toNat, rfl, rfl, r.cells, by rw [List.length_map]; exact ixK o1 o2, ?_⟩
    rw [setI]
    have rl := r.setL (st.cells.set k.toNat (g.ev st.regs % st.sides.getD k.toNat 0))
    have b := But.upd (H := H) (D := R.l) (o := .lst ((st.cells.set k.toNat (g.ev st.regs % st.sides.getD k.toNat 0)).map .int))
    refine ⟨_, rfl, R.x, _, R.dx, _, _, rfl, rl.ins, T.c_Run, T.n_Run_held, rf_held, _, rfl, _, _, _, _, rfl, rfl, sqT_but (.lst r.cells) b ha, at1, R.h, _, rfl, DPut.k (k := Sum.inr rg) rl.held (by show 5 < sizeLine; decide), ?_⟩
    rw [held_put (in45 o0)]
    refine q _ ((Bt.l b).trans (Bt.h But.upd)) (show RunAt K _ R (if st.cells.getD k.toNat 0 = e.ev st.regs then { st with cells := st.cells.set k.toNat (g.ev st.regs % st.sides.getD k.toNat 0), regs := rset st.regs rg 1 } else { st with regs := rset st.regs rg 0 }) from ?_)
    rw [if_pos c]
    exact rl.setH _
  · rw [decide_eq_false (show ¬ V.int (st.cells.getD k.toNat 0) = V.int (e.ev st.regs) from fun z => c (V.int.inj z))]
    refine iteF ?_
    refine ⟨_, rfl, R.x, _, R.dx, _, _, rfl, r.ins, T.c_Run, T.n_Run_held, rf_held, _, rfl, _, _, _, _, rfl, rfl, ha, at1, R.h, _, rfl, DPut.k (k := Sum.inr rg) r.held (by show 5 < sizeLine; decide), ?_⟩
    rw [held_put (in45 o0)]
    refine q _ (Bt.h But.upd) (show RunAt K _ R (if st.cells.getD k.toNat 0 = e.ev st.regs then { st with cells := st.cells.set k.toNat (g.ev st.regs % st.sides.getD k.toNat 0), regs := rset st.regs rg 1 } else { st with regs := rset st.regs rg 0 }) from ?_)
    rw [if_neg c]
    exact r.setH _
theorem cf_do_rounds (T : Txt w K mg) : Cf P w K mg base 9 "do_rounds" ["run", "row"] (spDo K (fun f => ∃ e, f = .rounds e)) := by
  refine cf_of (N := ["run", "row"]) (ps := ["run", "row"]) T.f_do_rounds T.g_do_rounds ⟨rfl, rfl, rfl, by decide +kernel, rfl, by decide +kernel, by decide +kernel⟩ (fun _ _ _ _ _ _ us hl => match us, hl with | [_, _], _ => rfl)
    (fun vs H Q E h => by obtain ⟨R, y, f, st, rfl, r, m, hv, ⟨e, rfl⟩, ok, can, q⟩ := h; rfl) (fun cdv A outer s H vs Q E hr h => ?_)
  have nd : (["run", "row"] : List Str).Nodup := by decide +kernel
  obtain ⟨R, y, f, st, rfl, r, m, hv, ⟨e, rfl⟩, ok, can, q⟩ := h
  refine ⟨_, (pss_one (ps_expr (pe_bm PySem.F.plainAttrs_list PySem.F.slot_list_append PySem.F.type_list_append mt_append (pe_fld (pv 0) rfl) (pa_cons (pe_ca (ca_value_of 7 T) hr (pa_cons (pe_ix ix_tup (pv 1) pe_int (fun _ _ => rfl)) (pa_cons (pe_fld (pv 0) rfl) pa_nil))) pa_nil)))), ?_⟩
  obtain ⟨a, x1, x2, rfl, ha, e1, e2⟩ := dp2 hv
  obtain ⟨o2, o3⟩ := ok
  have can : st.rounds.length < 9 := can
  refine ⟨_, rfl, R.x, _, R.dx, _, _, rfl, r.ins, T.c_Run, T.n_Run_rounds, rf_rounds, .inl ⟨rfl, _, .of r.rounds⟩, ?_⟩
  refine ⟨_, rfl, _, _, _, _, rfl, rfl, ha, at1, _, rfl, R.x, _, R.dx, _, _, rfl, r.ins, T.c_Run, T.n_Run_held, rf_held, x2, e, R.h, st.regs, rfl, e2, o2, by omega, r.held, m.rg, R.u, _, _, rfl, rfl, r.rounds, by rw [List.length_map, sizeLine_eq]; omega, ?_⟩
  have : (st.rounds.map V.int) ++ [V.int (e.ev st.regs)] = (st.rounds ++ [e.ev st.regs]).map V.int := by rw [List.map_append]; rfl
  rw [this]
  exact q _ (Bt.u But.upd) (r.setU _)
end

end M

set_option Elab.async false
set_option linter.all false
set_option maxRecDepth 100000
set_option maxHeartbeats 2000000
namespace M
open PySem PySem.Spec PyProof.Rows L2

/-- the last item of a list -/
def rLast (K : PySem.W.Frag) : V → V → Hp → VK → Prop := fun o i H Q => ∃ p xs v, o = .ref p ∧ i = .int (-1) ∧ SqL K H p xs ∧ atI xs (-1) = some v ∧ Q v H
theorem get_last {X : Cx} : PGet X (rLast X.K) := by
  intro pins s σ H o i ov iv Q I ro ri h
  obtain ⟨p, xs, z, rfl, rfl, hq, he, q⟩ := h
  cases ro
  obtain ⟨t, rfl⟩ := ri
  obtain ⟨its, r, pl, hz⟩ := I.list hq
  obtain ⟨j, h1, h2, h3, h4, h5⟩ := atI_get he
  obtain ⟨w, ew, rw'⟩ := r.get h2
  have hl := r.length
  have hn := line63
  have hj : ((-1 : Int) + (its.toArray.size : Int)).toNat = j := by
    rw [seqIndex_neg (by omega) h4] at h1
    rw [List.size_toArray, ← hl]
    exact Option.some.inj h1
  exact wpAny_getItem_list_neg pl.isList (by omega) (by rw [List.size_toArray] <;> omega) (by omega) (by rw [hj]; simpa using ew) ⟨z, H, I, rw', q⟩
theorem snoc_of {l : List Int} (h : l ≠ []) : ∃ l0 z, l = l0 ++ [z] := ⟨_, _, (List.dropLast_concat_getLast h).symm⟩
theorem last_at (l : List Int) (z : Int) : atI ((l ++ [z]).map V.int) (-1) = some (.int z) := by
  rw [List.map_append]
  exact atI_last _ _
theorem last_pop (l : List Int) (z : Int) : ((l ++ [z]).map V.int)[((l ++ [z]).map V.int).length - 1]? = some (.int z) := by
  simp
theorem last_drop (l : List Int) (z : Int) : ((l ++ [z]).map V.int).dropLast = l.map V.int := by
  rw [List.map_append]
  exact List.dropLast_concat
theorem last_ix (l : List Int) (z : Int) : ixN ((l ++ [z]).map V.int).length (-1) = some l.length := by
  rw [List.length_map, List.length_append]
  unfold ixN
  rw [if_neg (by decide), if_pos (by simp; omega)]
  congr 1
  simp
  omega
theorem last_set (l : List Int) (z v : Int) : ((l ++ [z]).map V.int).set l.length (.int v) = (l ++ [v]).map V.int := by
  rw [setI]
  congr 1
  rw [List.set_append_right _ _ (Nat.le_refl _)]
  simp
section
variable {P : Program} {w : World} {K : PySem.W.Frag} {mg : Str → Option Value} {base : Heap}
theorem cf_do_round (T : Txt w K mg) : Cf P w K mg base 1 "do_round" ["run", "row"] (spDo K (fun f => ∃ p, f = .round p)) := by
  refine cf_of (N := ["run", "row"]) (ps := ["run", "row"]) T.f_do_round T.g_do_round ⟨rfl, rfl, rfl, by decide +kernel, rfl, by decide +kernel, by decide +kernel⟩ (fun _ _ _ _ _ _ us hl => match us, hl with | [_, _], _ => rfl)
    (fun vs H Q E h => by obtain ⟨R, y, f, st, rfl, r, m, hv, ⟨p, rfl⟩, ok, can, q⟩ := h; rfl) (fun cdv A outer s H vs Q E hr h => ?_)
  have nd : (["run", "row"] : List Str).Nodup := by decide +kernel
  obtain ⟨R, y, f, st, rfl, r, m, hv, ⟨p, rfl⟩, ok, can, q⟩ := h
  refine ⟨_, (pss_one (ps_if (pt_cmpR op_eq (pe_ix ix_list (pe_fld (pv 0) rfl) (pe_un un_neg pe_int) (fun _ _ => rfl)) pe_int (nomark _)) (pss_cons (ps_expr (pe_bm0 PySem.F.plainAttrs_list PySem.F.slot_list_pop PySem.F.type_list_pop mt_pop (pe_fld (pv 0) rfl)))
      (pss_one (ps_fld (pv 0) (pe_ix ix_tup (pv 1) pe_int (fun _ _ => rfl)) rfl))) (pss_one (ps_augS (pe_fld (pv 0) rfl) (pe_un un_neg pe_int) get_last pe_int ip_sub set_list)))), ?_⟩
  obtain ⟨a, x1, x2, rfl, ha, e1, e2⟩ := dp2 hv
  cases dp_int e2
  obtain ⟨l, z, el⟩ := snoc_of (show st.rounds ≠ [] from can)
  have hu := r.rounds
  rw [el] at hu
  have eg : st.rounds.getLast?.getD 0 = z := by rw [el]; simp
  have ed : st.rounds.dropLast = l := by rw [el]; exact List.dropLast_concat
  have q : ∀ (H' : Hp), Bt R H H' → RunAt K H' R (if z = 0 then { st with rounds := l, place := (p : Int) } else { st with rounds := l ++ [z - 1] }) → Q V.non H' := by
    rw [← ed]
    rw [← eg]
    exact q
  refine ⟨_, rfl, R.x, _, R.dx, _, _, rfl, r.ins, T.c_Run, T.n_Run_rounds, rf_rounds, _, rfl, _, _, _, _, rfl, rfl, .of hu, last_at l z, rfl, _, rfl, ?_⟩
  by_cases c : z = 0
  · rw [decide_eq_true (show V.int z = V.int 0 from congrArg V.int c)]
    refine iteT ?_
    refine ⟨_, rfl, R.x, _, R.dx, _, _, rfl, r.ins, T.c_Run, T.n_Run_rounds, rf_rounds, .inl ⟨rfl, _, .of hu⟩, R.u, _, _, rfl, rfl, hu, last_pop l z, ?_⟩
    rw [last_drop]
    have ru := r.setU l
    have b := But.upd (H := H) (D := R.u) (o := .lst (l.map V.int))
    refine ⟨_, rfl, _, _, _, _, rfl, rfl, sqT_but (.lst hu) b ha, at1, ?_⟩
    refine ⟨_, rfl, R.x, _, R.dx, _, rfl, ru.ins, T.c_Run, T.n_Run_place, (by show 9 < 1000; decide), ?_⟩
    rw [rf_putP]
    rw [if_pos c] at q
    exact q _ ((Bt.u b).trans (Bt.x But.upd)) (ru.setX st.fallen p st.res)
  · rw [decide_eq_false (show ¬ V.int z = V.int 0 from fun y => c (V.int.inj y))]
    refine iteF ?_
    refine ⟨_, rfl, R.x, _, R.dx, _, _, rfl, r.ins, T.c_Run, T.n_Run_rounds, rf_rounds, _, rfl, R.u, _, _, rfl, rfl, .of hu, last_at l z, _, _, rfl, rfl, R.u, _, _, _, rfl, rfl, hu, last_ix l z, ?_⟩
    rw [last_set]
    rw [if_neg c] at q
    exact q _ (Bt.u But.upd) (r.setU (l ++ [z - 1]))
theorem cf_do_coin (T : Txt w K mg) : Cf P w K mg base 1 "do_coin" ["run", "row"] (spDo K (fun f => ∃ r, f = .row (.coin r))) := by
  refine cf_of (N := ["run", "row"]) (ps := ["run", "row"]) T.f_do_coin T.g_do_coin ⟨rfl, rfl, rfl, by decide +kernel, rfl, by decide +kernel, by decide +kernel⟩ (fun _ _ _ _ _ _ us hl => match us, hl with | [_, _], _ => rfl)
    (fun vs H Q E h => by obtain ⟨R, y, f, st, rfl, r, m, hv, ⟨rg, rfl⟩, ok, can, q⟩ := h; rfl) (fun cdv A outer s H vs Q E hr h => ?_)
  have nd : (["run", "row"] : List Str).Nodup := by decide +kernel
  obtain ⟨R, y, f, st, rfl, r, m, hv, ⟨rg, rfl⟩, ok, can, q⟩ := h
  refine ⟨_, (pss_cons (ps_if (pt_cmpR op_eq (pe_fld (pv 0) rfl) (pe_callB call_len_seq (by rfl) T.b_len PySem.boot_len (pa_cons (pe_fld (pv 0) rfl) pa_nil)) (nomark _)) (pss_one ps_never) pss_nil)
      (pss_cons (ps_dput (hu_of hr) (pe_fld (pv 0) rfl) (pe_ix ix_tup (pv 1) pe_int (fun _ _ => rfl)) (pe_ix ix_seq (pe_fld (pv 0) rfl) (pe_fld (pv 0) rfl) (fun _ _ => rfl)) rfl)
      (pss_one (ps_fldaug (pv 0) pe_int in_add)))), ?_⟩
  obtain ⟨a, x1, x2, rfl, ha, e1, e2⟩ := dp2 hv
  cases dp_str e2
  have can : 0 ≤ st.fallen ∧ st.fallen < st.coins.length := can
  have cl : SqL K H R.n (st.coins.map V.int) ∨ SqT K H R.n (st.coins.map V.int) := r.coins.seq
  refine ⟨_, rfl, R.x, _, R.dx, _, _, rfl, r.ins, T.c_Run, T.n_Run_fallen, rf_fallen, _, rfl, R.x, _, R.dx, _, _, rfl, r.ins, T.c_Run, T.n_Run_coins, rf_coins, _, _, rfl, cl, rfl, _, rfl, ?_⟩
  rw [decide_eq_false (show ¬ V.int st.fallen = V.int ((st.coins.map V.int).length : Nat) from fun z => by have := V.int.inj z; rw [List.length_map] at this; omega)]
  refine iteF ?_
  refine ⟨_, rfl, R.x, _, R.dx, _, _, rfl, r.ins, T.c_Run, T.n_Run_coins, rf_coins, _, rfl, R.x, _, R.dx, _, _, rfl, r.ins, T.c_Run, T.n_Run_fallen, rf_fallen, ?_⟩
  have ri : ∀ G : VK, G (.int (st.coins.getD st.fallen.toNat 0)) H → rIx K (.ref R.n) (.int st.fallen) H G := fun G g => cl.elim (fun h => .inl ⟨R.n, _, st.fallen, _, rfl, rfl, h, atK can.1 can.2 rfl, g⟩) (fun h => .inr (.inl ⟨R.n, _, st.fallen, _, rfl, rfl, h, atK can.1 can.2 rfl, g⟩))
  refine ri _ ?_
  refine ⟨_, rfl, R.x, _, R.dx, _, _, rfl, r.ins, T.c_Run, T.n_Run_held, rf_held, _, rfl, _, _, _, _, rfl, rfl, ha, at1, R.h, _, rfl, DPut.k (k := Sum.inr rg) r.held (by show 5 < sizeLine; decide), ?_⟩
  rw [held_put (in45 ok)]
  have rh := r.setH (rset st.regs rg (st.coins.getD st.fallen.toNat 0))
  have b := But.upd (H := H) (D := R.h) (o := .dK (heldK (rset st.regs rg (st.coins.getD st.fallen.toNat 0))))
  refine ⟨_, rfl, R.x, _, R.dx, _, _, rfl, rh.ins, T.c_Run, T.n_Run_fallen, rf_fallen, _, _, rfl, rfl, _, _, rh.ins, (by show 9 < 1000; decide), ?_⟩
  rw [rf_putF]
  exact q _ ((Bt.h b).trans (Bt.x But.upd)) (rh.setX (st.fallen + 1) st.place st.res)
end

end M

set_option Elab.async false
set_option linter.all false
set_option maxRecDepth 100000
set_option maxHeartbeats 2000000
namespace M
open PySem PySem.Spec PyProof.Rows L2

/-! ### the rows are done, one by one -/
inductive Fin : Nat → Mst → Mst → Prop
  | stop {st : Mst} {v : Int} (h : st.res = some v) : Fin 0 st st
  | step {st st' : Mst} {f : FR} {n : Nat} (h : st.res = none) (h0 : 0 ≤ st.place) (hf : st.code[st.place.toNat]? = some f) (c : Can f { st with place := st.place + 1 }) (r : Fin n (stp1 f { st with place := st.place + 1 }) st') : Fin (n + 1) st st'
theorem MOk.at {st : Mst} (m : MOk st) (p : Int) : MOk { st with place := p } := ⟨m.rg, m.cl, m.sd, m.le, m.l6, m.fd, m.co⟩
theorem MOk.reg {st : Mst} (m : MOk st) {r : Str} {i : Int} (h : 0 ≤ i ∧ i ≤ 9) : MOk { st with regs := rset st.regs r i } := ⟨rset_ok m.rg h, m.cl, m.sd, m.le, m.l6, m.fd, m.co⟩
theorem MOk.cell {st : Mst} (m : MOk st) {k : Int} {v : Int} (h0 : 0 ≤ k) (hk : k < st.cells.length) : MOk { st with cells := st.cells.set k.toNat (v % st.sides.getD k.toNat 0) } := by
  have s := m.sd _ (getD_mem (l := st.sides) (i := k.toNat) (d := 0) (by rw [m.le]; omega))
  refine ⟨m.rg, fun c hc => ?_, m.sd, by show _ = (st.cells.set _ _).length; rw [List.length_set]; exact m.le, by show (st.cells.set _ _).length ≤ 6; rw [List.length_set]; exact m.l6, fun f hf => by show FOk (st.cells.set _ _).length f; rw [List.length_set]; exact m.fd f hf, m.co⟩
  rcases List.mem_or_eq_of_mem_set hc with h | h
  · exact m.cl c h
  · have a := Int.emod_nonneg v (show st.sides.getD k.toNat 0 ≠ 0 by omega)
    have b := Int.emod_lt_of_pos v (show 0 < st.sides.getD k.toNat 0 by omega)
    omega
theorem MOk.step {st : Mst} {f : FR} (m : MOk st) (h : FOk st.cells.length f) (c : Can f st) : MOk (stp1 f st) := by
  cases f with
  | row r =>
    cases r with
    | read r k =>
      have := m.cl _ (getD_mem (l := st.cells) (i := k.toNat) (d := 0) (by have := h.2; omega))
      exact m.reg ⟨this.1, by omega⟩
    | set k e => exact m.cell h.1.1 h.1.2
    | swap r k e g =>
      show MOk (if st.cells.getD k.toNat 0 = e.ev st.regs then { st with cells := st.cells.set k.toNat (g.ev st.regs % st.sides.getD k.toNat 0), regs := rset st.regs r 1 } else { st with regs := rset st.regs r 0 })
      split
      · exact (m.cell h.2.1.1 h.2.1.2).reg (by decide)
      · exact m.reg (by decide)
    | keep r e => exact m.reg (ev_bd m.rg h.2.1)
    | coin r =>
      have c : 0 ≤ st.fallen ∧ st.fallen < st.coins.length := c
      have := m.co _ (getD_mem (l := st.coins) (i := st.fallen.toNat) (d := 0) (by omega))
      have z := m.reg (r := r) (i := st.coins.getD st.fallen.toNat 0) ⟨this.1, by omega⟩
      exact ⟨z.rg, z.cl, z.sd, z.le, z.l6, z.fd, z.co⟩
    | iff e a b => exact h.elim
    | times e a => exact h.elim
    | ans e => exact ⟨m.rg, m.cl, m.sd, m.le, m.l6, m.fd, m.co⟩
  | «unless» e p =>
    show MOk (if e.ev st.regs = 0 then { st with place := p } else st)
    split
    · exact m.at p
    · exact m
  | on p => exact m.at p
  | rounds e => exact ⟨m.rg, m.cl, m.sd, m.le, m.l6, m.fd, m.co⟩
  | round p =>
    show MOk (if st.rounds.getLast?.getD 0 = 0 then { st with rounds := st.rounds.dropLast, place := p } else { st with rounds := st.rounds.dropLast ++ [st.rounds.getLast?.getD 0 - 1] })
    split
    · exact ⟨m.rg, m.cl, m.sd, m.le, m.l6, m.fd, m.co⟩
    · exact ⟨m.rg, m.cl, m.sd, m.le, m.l6, m.fd, m.co⟩
  | hole => exact h.elim
theorem stp1_code (f : FR) (st : Mst) : (stp1 f st).code = st.code := by
  cases f with
  | row r =>
    cases r with
    | swap r k e g =>
      show (if st.cells.getD k.toNat 0 = e.ev st.regs then { st with cells := st.cells.set k.toNat (g.ev st.regs % st.sides.getD k.toNat 0), regs := rset st.regs r 1 } else { st with regs := rset st.regs r 0 } : Mst).code = _
      split <;> rfl
    | _ => rfl
  | «unless» e p =>
    show (if e.ev st.regs = 0 then { st with place := p } else st : Mst).code = _
    split <;> rfl
  | round p =>
    show (if st.rounds.getLast?.getD 0 = 0 then { st with rounds := st.rounds.dropLast, place := p } else { st with rounds := st.rounds.dropLast ++ [st.rounds.getLast?.getD 0 - 1] } : Mst).code = _
    split <;> rfl
  | _ => rfl
section
variable {P : Program} {w : World} {K : PySem.W.Frag} {mg : Str → Option Value} {base : Heap}
/-- the def at f keeps sp, as an action -/
def GoodA (P : Program) (w : World) (K : PySem.W.Frag) (mg : Str → Option Value) (base : Heap) (k : Nat) (f : Addr) (sp : Sp) : Prop :=
  ∃ (fd : FuncData) (oc : Value) (od : Option Addr) (osl : Array (Option Value)), K.lookup f = some ⟨oc, od, .func fd, osl⟩ ∧ FnOk P w K mg base CX0 k f fd ["run", "row"] sp ∧ PySem.W.keepIn K (.ref f) = true ∧ Binds K fd ["run", "row"] []
def spU (P : Program) (w : World) (K : PySem.W.Frag) (mg : Str → Option Value) (base : Heap) (k : Nat) (f : Addr) : Sp := fun vs H Q E => ∃ sp, GoodA P w K mg base k f sp ∧ sp vs H Q E
open Classical in
noncomputable def SA (P : Program) (w : World) (K : PySem.W.Frag) (mg : Str → Option Value) (base : Heap) (k : Nat) (f : Addr) : Option Sp := if ∃ sp, GoodA P w K mg base k f sp then some (spU P w K mg base k f) else none
theorem sa_held {k : Nat} : ∀ f sp, SA P w K mg base k f = some sp → Held P w K mg base k f sp := by
  intro f sp h
  unfold SA at h
  split at h
  · rename_i g
    cases (Option.some.inj h)
    obtain ⟨sp0, fd, oc, od, osl, lk, F, kp, b⟩ := g
    refine ⟨fd, ["run", "row"], ⟨fun vs H Q E q => ?_, fun A outer s H args us vs Q E hr he hb hv q => ?_⟩, kp, b⟩
    · obtain ⟨sp1, ⟨fd1, _, _, _, lk1, F1, _⟩, q⟩ := q
      exact F1.len vs H Q E q
    · obtain ⟨sp1, ⟨fd1, _, _, _, lk1, F1, _⟩, q⟩ := q
      have e : fd1 = fd := by
        rw [lk] at lk1
        cases lk1
        rfl
      subst e
      exact F1.run A outer s H args us vs Q E hr he hb hv q
  · cases h
theorem sa_some {k : Nat} {x : Str} {sp : Sp} (c : Cf P w K mg base k x ["run", "row"] sp) : SA P w K mg base k (He.ga K x) = some (spU P w K mg base k (He.ga K x)) := if_pos ⟨sp, c.ex⟩
def acts : List (Str × He.Dv) := [("read", .glo "do_read"), ("set", .glo "do_set"), ("swap", .glo "do_swap"), ("keep", .glo "do_keep"), ("coin", .glo "do_coin"), ("answer", .glo "do_answer"), ("unless", .glo "do_unless"), ("on", .glo "do_on"), ("rounds", .glo "do_rounds"), ("round", .glo "do_round")]
theorem do_ok (T : Txt w K mg) {n : Nat} {f : FR} (h : FOk n f) : ∃ (wd nm : Str) (p : FR → Prop), f.hd = some wd ∧ (wd, He.Dv.glo nm) ∈ acts ∧ p f ∧ Cf P w K mg base 9 nm ["run", "row"] (spDo K p) := by
  cases f with
  | row r =>
    cases r with
    | read r k => exact ⟨_, "do_read", _, rfl, by simp [acts, Row.word], ⟨r, k, rfl⟩, (cf_do_read T).mono (by decide)⟩
    | set k e => exact ⟨_, "do_set", _, rfl, by simp [acts, Row.word], ⟨k, e, rfl⟩, cf_do_set T⟩
    | swap r k e g => exact ⟨_, "do_swap", _, rfl, by simp [acts, Row.word], ⟨r, k, e, g, rfl⟩, cf_do_swap T⟩
    | keep r e => exact ⟨_, "do_keep", _, rfl, by simp [acts, Row.word], ⟨r, e, rfl⟩, cf_do_keep T⟩
    | coin r => exact ⟨_, "do_coin", _, rfl, by simp [acts, Row.word], ⟨r, rfl⟩, (cf_do_coin T).mono (by decide)⟩
    | iff e a b => exact h.elim
    | times e a => exact h.elim
    | ans e => exact ⟨_, "do_answer", _, rfl, by simp [acts, Row.word], ⟨e, rfl⟩, cf_do_answer T⟩
  | «unless» e p => exact ⟨_, "do_unless", _, rfl, by simp [acts], ⟨e, p, rfl⟩, cf_do_unless T⟩
  | on p => exact ⟨_, "do_on", _, rfl, by simp [acts], ⟨p, rfl⟩, (cf_do_on T).mono (by decide)⟩
  | rounds e => exact ⟨_, "do_rounds", _, rfl, by simp [acts], ⟨e, rfl⟩, cf_do_rounds T⟩
  | round p => exact ⟨_, "do_round", _, rfl, by simp [acts], ⟨p, rfl⟩, (cf_do_round T).mono (by decide)⟩
  | hole => exact h.elim
theorem act_at (T : Txt w K mg) {wd nm : Str} (h : (wd, He.Dv.glo nm) ∈ acts) : KDct K w (He.ga K "ACTIONS") wd (.ref (He.ga K nm)) := by
  obtain ⟨es, n, D⟩ := T.t_ACTIONS
  obtain ⟨u, e, r⟩ := He.valsB_ok T.e_ACTIONS h
  exact ⟨es, n, u, D.at_, D.lit, e, r⟩
def spFinish (K : PySem.W.Frag) : Sp := fun vs H Q _ => ∃ (R : RA) (st st' : Mst) (n : Nat), vs = [.ref R.x] ∧ RunAt K H R st ∧ MOk st ∧ Fin n st st' ∧ ∀ H', Bt R H H' → RunAt K H' R st' → Q .non H'
theorem ca_finish (T : Txt w K mg) : Ca P w K mg base 10 "finish" (spFinish K) := by
  refine ca_of (N := ["run", "code", "row", "action"]) (ps := ["run"]) T.f_finish T.g_finish ⟨rfl, rfl, rfl, by decide +kernel, rfl, by decide +kernel, by decide +kernel⟩ (fun _ _ _ _ _ _ us hl => match us, hl with | [_], _ => rfl)
    (fun vs H Q E h => by obtain ⟨R, st, st', n, rfl, r, m, fin, q⟩ := h; rfl) (fun cdv A outer s H vs Q E hr h => ?_)
  have nd : (["run", "code", "row", "action"] : List Str).Nodup := by decide +kernel
  obtain ⟨R, st, st', n, rfl, r, m, fin, q⟩ := h
  refine ⟨_, (pss_cons (ps_set (i := 1) nd rfl (.inl rfl) (pe_fld (pv 0) rfl))
      (pss_one (ps_while PassesOwn.never (pt_cmp (pc_isN (pe_fld (pv 0) rfl))) (pss_cons (ps_set (i := 2) nd rfl (.inl rfl) (pe_ix ix_tup (pv 1) (pe_fld (pv 0) rfl) (fun _ _ => rfl)))
      (pss_cons (ps_fldaug (pv 0) pe_int in_add)
      (pss_cons (ps_set (i := 3) nd rfl (.inl rfl) (pe_ix ix_kdict (pe_gr T.g_ACTIONS) (pe_ix ix_tup (pv 2) pe_int (fun _ _ => rfl)) (fun _ _ => rfl)))
      (pss_one (ps_expr (pe_callA (i := 3) sa_held hr rfl (.inl rfl) (pa_cons (pv 0) (pa_cons (pv 2) pa_nil))))))))))), ?_⟩
  refine ⟨_, rfl, R.x, _, R.dx, _, _, rfl, r.ins, T.c_Run, T.n_Run_code, rf_code, ?_⟩
  refine ⟨fun i σ' H' => ∃ (st1 : Mst) (x y : Option V), σ' = [some (.ref R.x), some (.ref R.c), x, y] ∧ Fin i st1 st' ∧ RunAt K H' R st1 ∧ MOk st1 ∧ Bt R H H', ⟨n, st, none, none, rfl, fin, r, m, Bt.refl R H⟩, ?_⟩
  rintro i σ' H' ⟨st1, x, y, rfl, fin1, r1, m1, bt⟩
  refine ⟨_, rfl, R.x, _, R.dx, _, _, rfl, r1.ins, T.c_Run, T.n_Run_result, rf_result, ?_⟩
  cases fin1 with
  | stop h =>
    rw [h]
    exact ⟨_, rfl, iteF (q H' bt r1)⟩
  | @step _ _ f j h h0 hf c rest =>
    rw [h]
    refine ⟨_, rfl, iteT ?_⟩
    have hfok := m1.fd f (List.mem_of_getElem? hf)
    refine ⟨fun σ2 H2 => ∃ (st1 : Mst) (x y : Option V), σ2 = [some (.ref R.x), some (.ref R.c), x, y] ∧ Fin j st1 st' ∧ RunAt K H2 R st1 ∧ MOk st1 ∧ Bt R H H2, fun σ2 H2 h2 => ⟨j, Nat.lt_succ_self _, h2⟩, ?_⟩
    obtain ⟨a, xs, ea, ha, hxs⟩ := dp_tup r1.code
    cases ea
    obtain ⟨y0, hy0, dy0⟩ := dps_at (i := st1.place.toNat) hxs (d := f.d) (by rw [List.getElem?_map, hf]; rfl)
    have ep : ((st1.place.toNat : Nat) : Int) = st1.place := Int.toNat_of_nonneg h0
    have hat : atI xs st1.place = some y0 := by
      have := atI_nat hy0
      rw [ep] at this
      exact this
    refine ⟨_, rfl, _, rfl, R.x, _, R.dx, _, _, rfl, r1.ins, T.c_Run, T.n_Run_place, rf_place, _, _, _, _, rfl, rfl, ha, hat, ?_⟩
    refine ⟨_, rfl, R.x, _, R.dx, _, _, rfl, r1.ins, T.c_Run, T.n_Run_place, rf_place, _, _, rfl, rfl, _, _, r1.ins, (by show 9 < 1000; decide), ?_⟩
    rw [rf_putP]
    have r2 := r1.setX st1.fallen (st1.place + 1) st1.res
    have b2 := But.upd (H := H') (D := R.x) (o := .ins (He.ga K "Run") R.dx (rf R.c R.s R.l R.n st1.fallen R.h R.u (st1.place + 1) (resV st1.res)))
    generalize upd H' R.x (.ins (He.ga K "Run") R.dx (rf R.c R.s R.l R.n st1.fallen R.h R.u (st1.place + 1) (resV st1.res))) = H2 at r2 b2
    have dy2 := dp_but (.ins r1.ins) b2 dy0 f.noL
    obtain ⟨wd, nm, p, hw, hin, hp, cf⟩ := do_ok T hfok
    have dy3 := dy2
    rw [fr_d hw] at dy3
    obtain ⟨rb, zs, rfl, hrb, hzs⟩ := dp_tup dy3
    obtain ⟨z0, zr, rfl, hz0⟩ : ∃ z0 zr, zs = z0 :: zr ∧ Dp K H2 z0 (.str wd) := by
      cases hzs with | cons h1 h2 => exact ⟨_, _, rfl, h1⟩
    cases dp_str hz0
    refine ⟨_, rfl, _, _, _, _, rfl, rfl, hrb, at0, _, _, _, rfl, rfl, act_at T hin, ?_⟩
    refine ⟨_, _, rfl, sa_some cf, _, rfl, _, rfl, spDo K p, cf.ex, R, .ref rb, f, { st1 with place := st1.place + 1 }, rfl, r2, m1.at _, dy2, hp, hfok, c, fun H3 b3 r3 => ?_⟩
    exact ⟨_, _, _, rfl, rest, r3, (m1.at _).step hfok c, (bt.trans (Bt.x b2)).trans b3⟩
end

end M

set_option Elab.async false
set_option linter.all false
set_option maxRecDepth 100000
set_option maxHeartbeats 2000000
namespace M
open PySem PySem.Spec PyProof.Rows L2

/-! ### the steps told -/
def cellsD (st : Mst) : PyData := .tuple (st.cells.map PyData.int)
def tell : FR → Mst → List PyData
  | .row (.set k _), st => [.tuple [.str "set", .int k, .int (st.cells.getD k.toNat 0), cellsD st]]
  | .row (.read r k), st => [.tuple [.str "read", .int k, .int (st.regs r), cellsD st]]
  | .row (.swap r k _ _), st => [.tuple [.str "swap", .int k, .int (st.regs r), cellsD st]]
  | _, _ => []
inductive FinT : Nat → Mst → Mst → List PyData → Prop
  | stop {st : Mst} {v : Int} (h : st.res = some v) : FinT 0 st st []
  | step {st st' : Mst} {f : FR} {n : Nat} {tr : List PyData} (h : st.res = none) (h0 : 0 ≤ st.place) (hf : st.code[st.place.toNat]? = some f) (c : Can f { st with place := st.place + 1 }) (r : FinT n (stp1 f { st with place := st.place + 1 }) st' tr) : FinT (n + 1) st st' (tell f (stp1 f { st with place := st.place + 1 }) ++ tr)
theorem FinT.fin {n : Nat} {st st' : Mst} {tr : List PyData} (h : FinT n st st' tr) : Fin n st st' := by
  induction h with
  | stop h => exact .stop h
  | step h h0 hf c _ ih => exact .step h h0 hf c ih
theorem cellsD_noL (st : Mst) : NoL (cellsD st) := .tup fun d h => by
  obtain ⟨i, _, rfl⟩ := List.mem_map.mp h
  exact .int i
theorem four_noL (a : Str) (b c : Int) (st : Mst) : NoL (.tuple [.str a, .int b, .int c, cellsD st]) := .tup fun d h => by
  simp at h
  rcases h with rfl | rfl | rfl | rfl
  · exact .str _
  · exact .int _
  · exact .int _
  · exact cellsD_noL st
theorem tell_noL : ∀ (f : FR) (st : Mst), ∀ d ∈ tell f st, NoL d := by
  intro f st d h
  cases f with
  | row r => cases r <;> simp [tell] at h <;> subst h <;> exact four_noL ..
  | _ => cases h
section
variable {K : PySem.W.Frag} {H H' : Hp} {R : RA} {st : Mst}
theorem sqT_bt (r : RunAt K H R st) (b : Bt R H H') {a : Addr} {xs : List V} (h : SqT K H a xs) : SqT K H' a xs := by
  rcases h with (h | ⟨o, h⟩) | h
  · exact .inl (.inl (b _ _ (ne_ho h r.ins fun e => nomatch e) (ne_ho h r.cells fun e => nomatch e) (ne_ho h r.held fun e => nomatch e) (ne_ho h r.rounds fun e => nomatch e) h))
  · exact .inl (.inr ⟨o, b _ _ (ne_ho h r.ins fun e => nomatch e) (ne_ho h r.cells fun e => nomatch e) (ne_ho h r.held fun e => nomatch e) (ne_ho h r.rounds fun e => nomatch e) h⟩)
  · exact .inr h
mutual
theorem dp_bt (r : RunAt K H R st) (b : Bt R H H') : ∀ {v : V} {d : PyData}, Dp K H v d → NoL d → Dp K H' v d
  | _, _, .non, _ => .non
  | _, _, .bl b, _ => .bl b
  | _, _, .int i, _ => .int i
  | _, _, .str x, _ => .str x
  | _, _, .lst _ _, n => nomatch n
  | _, _, .tup h t, n => .tup (sqT_bt r b h) (dps_bt r b t (by cases n with | tup h => exact h))
theorem dps_bt (r : RunAt K H R st) (b : Bt R H H') : ∀ {vs : List V} {ds : List PyData}, DpAll K H vs ds → (∀ d ∈ ds, NoL d) → DpAll K H' vs ds
  | _, _, .nil, _ => .nil
  | _, _, .cons h t, n => .cons (dp_bt r b h (n _ List.mem_cons_self)) (dps_bt r b t fun d hd => n d (List.mem_cons_of_mem _ hd))
end
end

end M

set_option Elab.async false
set_option linter.all false
set_option maxRecDepth 100000
set_option maxHeartbeats 2000000
namespace M
open PySem PySem.Spec PyProof.Rows L2

section
variable {P : Program} {w : World} {K : PySem.W.Frag} {mg : Str → Option Value} {base : Heap}
def spDoRow (K : PySem.W.Frag) : Sp := fun vs H Q _ => ∃ (R : RA) (st : Mst) (f : FR), vs = [.ref R.x] ∧ RunAt K H R st ∧ MOk st ∧ 0 ≤ st.place ∧ st.code[st.place.toNat]? = some f ∧ Can f { st with place := st.place + 1 } ∧
  ∀ (v : V) (H' : Hp), Bt R H H' → RunAt K H' R (stp1 f { st with place := st.place + 1 }) → Dp K H' v f.d → Q v H'
theorem ca_do_row (T : Txt w K mg) : Ca P w K mg base 10 "do_row" (spDoRow K) := by
  refine ca_of (N := ["run", "row", "action"]) (ps := ["run"]) T.f_do_row T.g_do_row ⟨rfl, rfl, rfl, by decide +kernel, rfl, by decide +kernel, by decide +kernel⟩ (fun _ _ _ _ _ _ us hl => match us, hl with | [_], _ => rfl)
    (fun vs H Q E h => by obtain ⟨R, st1, f, rfl, r1, m1, h0, hf, c, q⟩ := h; rfl) (fun cdv A outer s H vs Q E hr h => ?_)
  have nd : (["run", "row", "action"] : List Str).Nodup := by decide +kernel
  obtain ⟨R, st1, f, rfl, r1, m1, h0, hf, c, q⟩ := h
  refine ⟨_, (pss_cons (ps_set (i := 1) nd rfl (.inl rfl) (pe_ix ix_tup (pe_fld (pv 0) rfl) (pe_fld (pv 0) rfl) (fun _ _ => rfl)))
      (pss_cons (ps_fldaug (pv 0) pe_int in_add)
      (pss_cons (ps_set (i := 2) nd rfl (.inl rfl) (pe_ix ix_kdict (pe_gr T.g_ACTIONS) (pe_ix ix_tup (pv 1) pe_int (fun _ _ => rfl)) (fun _ _ => rfl)))
      (pss_cons (ps_expr (pe_callA (i := 2) sa_held hr rfl (.inl rfl) (pa_cons (pv 0) (pa_cons (pv 1) pa_nil))))
      (pss_one (ps_ret (pv 1))))))), ?_⟩
  have hfok := m1.fd f (List.mem_of_getElem? hf)
  obtain ⟨a, xs, ea, ha, hxs⟩ := dp_tup r1.code
  cases ea
  obtain ⟨y0, hy0, dy0⟩ := dps_at (i := st1.place.toNat) hxs (d := f.d) (by rw [List.getElem?_map, hf]; rfl)
  have ep : ((st1.place.toNat : Nat) : Int) = st1.place := Int.toNat_of_nonneg h0
  have hat : atI xs st1.place = some y0 := by
    have := atI_nat hy0
    rw [ep] at this
    exact this
  refine ⟨_, rfl, R.x, _, R.dx, _, _, rfl, r1.ins, T.c_Run, T.n_Run_code, rf_code, _, rfl, R.x, _, R.dx, _, _, rfl, r1.ins, T.c_Run, T.n_Run_place, rf_place, _, _, _, _, rfl, rfl, ha, hat, ?_⟩
  refine ⟨_, rfl, R.x, _, R.dx, _, _, rfl, r1.ins, T.c_Run, T.n_Run_place, rf_place, _, _, rfl, rfl, _, _, r1.ins, (by show 9 < 1000; decide), ?_⟩
  rw [rf_putP]
  have r2 := r1.setX st1.fallen (st1.place + 1) st1.res
  have b2 := But.upd (H := H) (D := R.x) (o := .ins (He.ga K "Run") R.dx (rf R.c R.s R.l R.n st1.fallen R.h R.u (st1.place + 1) (resV st1.res)))
  generalize upd H R.x (.ins (He.ga K "Run") R.dx (rf R.c R.s R.l R.n st1.fallen R.h R.u (st1.place + 1) (resV st1.res))) = H2 at r2 b2
  have dy2 := dp_but (.ins r1.ins) b2 dy0 f.noL
  obtain ⟨wd, nm, p, hw, hin, hp, cf⟩ := do_ok T hfok
  have dy3 := dy2
  rw [fr_d hw] at dy3
  obtain ⟨rb, zs, rfl, hrb, hzs⟩ := dp_tup dy3
  obtain ⟨z0, zr, rfl, hz0⟩ : ∃ z0 zr, zs = z0 :: zr ∧ Dp K H2 z0 (.str wd) := by
    cases hzs with | cons h1 h2 => exact ⟨_, _, rfl, h1⟩
  cases dp_str hz0
  refine ⟨_, rfl, _, _, _, _, rfl, rfl, hrb, at0, _, _, _, rfl, rfl, act_at T hin, ?_⟩
  refine ⟨_, _, rfl, sa_some cf, _, rfl, _, rfl, spDo K p, cf.ex, R, .ref rb, f, { st1 with place := st1.place + 1 }, rfl, r2, m1.at _, dy2, hp, hfok, c, fun H3 b3 r3 => ?_⟩
  exact ⟨_, rfl, q _ H3 ((Bt.x b2).trans b3) r3 (dp_bt r2 b3 dy2 f.noL)⟩
end

end M

set_option Elab.async false
set_option linter.all false
set_option maxRecDepth 100000
set_option maxHeartbeats 2000000
namespace M
open PySem PySem.Spec PyProof.Rows L2

/-- the telling is under way -/
structure TellAt (K : PySem.W.Frag) (H : Hp) (R : RA) (D : Addr) (st' : Mst) (tr : List PyData) (n i : Nat) (st1 : Mst) (H' : Hp) : Prop where
  fin : ∃ (tr1 tr2 : List PyData) (ys : List V), FinT i st1 st' tr2 ∧ tr = tr1 ++ tr2 ∧ H' D = some (.lst ys) ∧ DpAll K H' ys tr1 ∧ ys.length = tr1.length ∧ ∀ d ∈ tr1, NoL d
  run : RunAt K H' R st1
  ok : MOk st1
  bt : Bt R H H'
section
variable {P : Program} {w : World} {K : PySem.W.Frag} {mg : Str → Option Value} {base : Heap}
theorem sq_STEPS (T : Txt w K mg) (H : Hp) : SqT K H (He.ga K "STEPS") ((["read", "set", "swap"] : List Str).map V.str) := He.tupB_ok T.e_STEPS H
def spTell (K : PySem.W.Frag) : Sp := fun vs H Q _ => ∃ (R : RA) (st st' : Mst) (n : Nat) (tr : List PyData), vs = [.ref R.x] ∧ RunAt K H R st ∧ MOk st ∧ FinT n st st' tr ∧ tr.length ≤ 100000 ∧ ∀ (a : Addr) (ys : List V) (H' : Hp), Bt R H H' → RunAt K H' R st' → H a = none → H' a = some (.lst ys) → DpAll K H' ys tr → Q (.ref a) H'
theorem ca_finish_telling (T : Txt w K mg) : Ca P w K mg base 11 "finish_telling" (spTell K) := by
  refine ca_of (N := ["run", "steps", "row"]) (ps := ["run"]) T.f_finish_telling T.g_finish_telling ⟨rfl, rfl, rfl, by decide +kernel, rfl, by decide +kernel, by decide +kernel⟩ (fun _ _ _ _ _ _ us hl => match us, hl with | [_], _ => rfl)
    (fun vs H Q E h => by obtain ⟨R, st, st', n, tr, rfl, r, m, fin, hn, q⟩ := h; rfl) (fun cdv A outer s H vs Q E hr h => ?_)
  have nd : (["run", "steps", "row"] : List Str).Nodup := by decide +kernel
  obtain ⟨R, st, st', n, tr, rfl, r, m, fin, hn, q⟩ := h
  refine ⟨_, (pss_cons (ps_set (i := 1) nd rfl (.inl rfl) (pe_lst pa_nil))
      (pss_cons (ps_while PassesOwn.never (pt_cmp (pc_isN (pe_fld (pv 0) rfl))) (pss_cons (ps_set (i := 2) nd rfl (.inl rfl) (pe_ca (ca_do_row T) hr (pa_cons (pv 0) pa_nil)))
      (pss_one (ps_if (pt_cmpR op_eq (pe_ix ix_tup (pv 2) pe_int (fun _ _ => rfl)) pe_str (nomark _)) (pss_one (ps_expr (pe_bm PySem.F.plainAttrs_list PySem.F.slot_list_append PySem.F.type_list_append mt_append (pv 1) (pa_cons (pe_tup (pa_cons pe_str (pa_cons (pe_ix ix_tup (pv 2) pe_int (fun _ _ => rfl)) (pa_cons (pe_ix ix_list (pe_fld (pv 0) rfl) (pe_ix ix_tup (pv 2) pe_int (fun _ _ => rfl)) (fun _ _ => rfl)) (pa_cons (pe_tupleOf (by rfl) T.b_tuple (pe_fld (pv 0) rfl)) pa_nil))))) pa_nil)))) (pss_one (ps_if (pt_cmpR op_in_seq (pe_ix ix_tup (pv 2) pe_int (fun _ _ => rfl)) (pe_gr T.g_STEPS) (by rfl)) (pss_one (ps_expr (pe_bm PySem.F.plainAttrs_list PySem.F.slot_list_append PySem.F.type_list_append mt_append (pv 1) (pa_cons (pe_tup (pa_cons (pe_ix ix_tup (pv 2) pe_int (fun _ _ => rfl)) (pa_cons (pe_ix ix_tup (pv 2) pe_int (fun _ _ => rfl)) (pa_cons (pe_dget (hu_of hr) (pe_fld (pv 0) rfl) (pe_ix ix_tup (pv 2) pe_int (fun _ _ => rfl)) (fun _ _ => rfl)) (pa_cons (pe_tupleOf (by rfl) T.b_tuple (pe_fld (pv 0) rfl)) pa_nil))))) pa_nil)))) pss_nil))))))
      (pss_one (ps_ret (pv 1))))), ?_⟩
  refine ⟨(by show 0 ≤ sizeLine; exact Nat.zero_le _), fun D nD => ?_⟩
  have s0 : Same H (upd H D (.lst [])) := same_new nD
  have dx : D ≠ R.x := Ne.symm (ne_of_none r.ins nD)
  have dl : D ≠ R.l := Ne.symm (ne_of_none r.cells nD)
  have dh : D ≠ R.h := Ne.symm (ne_of_none r.held nD)
  have du : D ≠ R.u := Ne.symm (ne_of_none r.rounds nD)
  have dn : R.ct = false → D ≠ R.n := fun e => r.coins.elim (fun h => Ne.symm (ne_of_none h.2.1 nD)) (fun h => by rw [e] at h; cases h.1)
  have r0 := r.same s0
  refine ⟨fun i σ' H' => ∃ (st1 : Mst) (x : Option V), σ' = [some (.ref R.x), some (.ref D), x] ∧ TellAt K H R D st' tr n i st1 H', ⟨n, st, none, rfl, ⟨[], tr, [], fin, rfl, upd_same, .nil, rfl, fun d h => by cases h⟩, r0, m, fun b o _ _ _ _ e => s0 b o e⟩, ?_⟩
  rintro i σ' H' ⟨st1, x, rfl, ⟨tr1, tr2, ys, fin1, etr, hD, hys, hlen, hnl⟩, r1, m1, bt⟩
  refine ⟨_, rfl, R.x, _, R.dx, _, _, rfl, r1.ins, T.c_Run, T.n_Run_result, rf_result, ?_⟩
  cases fin1 with
  | stop h =>
    rw [h]
    refine ⟨_, rfl, iteF ⟨_, rfl, q D ys H' bt r1 nD hD (by rw [etr, List.append_nil]; exact hys)⟩⟩
  | @step _ _ f j tr3 h h0 hf c rest =>
    rw [h]
    refine ⟨_, rfl, iteT ?_⟩
    have hfok := m1.fd f (List.mem_of_getElem? hf)
    refine ⟨fun σ2 H2 => ∃ (st1 : Mst) (x : Option V), σ2 = [some (.ref R.x), some (.ref D), x] ∧ TellAt K H R D st' tr n j st1 H2, fun σ2 H2 h2 => ⟨j, Nat.lt_succ_self _, h2⟩, ?_⟩
    refine ⟨_, rfl, R, st1, f, rfl, r1, m1, h0, hf, c, fun v H3 b3 r3 dy3 => ?_⟩
    have r3 : RunAt K H3 R (stp1 f { st1 with place := st1.place + 1 }) := r3
    have dy3 : Dp K H3 v f.d := dy3
    obtain ⟨wd, nm, p, hw, hin, hp, cf⟩ := do_ok (P := P) (base := base) T hfok
    rw [fr_d hw] at dy3
    obtain ⟨rb, zs, rfl, hrb3, hzs⟩ := dp_tup dy3
    obtain ⟨z0, zr, rfl, hz0⟩ : ∃ z0 zr, zs = z0 :: zr ∧ Dp K H3 z0 (.str wd) := by
      cases hzs with | cons h1 h2 => exact ⟨_, _, rfl, h1⟩
    cases dp_str hz0
    have m3 := (m1.at (st1.place + 1)).step hfok c
    have bt3 : Bt R H H3 := bt.trans b3
    have hle : ys.length ≤ 100000 := by
      rw [hlen]
      have := congrArg List.length etr
      simp only [List.length_append] at this
      omega
    have hD3 : H3 D = some (.lst ys) := b3 _ _ dx dl dh du hD
    have hys3 : DpAll K H3 ys tr1 := dps_bt r1 b3 hys hnl
    have nlt : ∀ d ∈ (PyData.str wd :: f.tl), NoL d := by
      have z := f.noL
      rw [fr_d hw] at z
      cases z with | tup h => exact h
    have dyt : DpAll K H3 (.str wd :: zr) (.str wd :: f.tl) := hzs
    -- nothing is told
    have quiet : tell f (stp1 f { st1 with place := st1.place + 1 }) = [] → TellAt K H R D st' tr n j (stp1 f { st1 with place := st1.place + 1 }) H3 := fun e => ⟨⟨tr1, tr3, ys, rest, by rw [etr, e]; rfl, hD3, hys3, hlen, hnl⟩, r3, m3, bt3⟩
    -- a step is told
    have told : ∀ (d : PyData) (t2 : Addr) (H4 : Hp), tell f (stp1 f { st1 with place := st1.place + 1 }) = [d] → Same H3 H4 → Dp K H4 (.ref t2) d → TellAt K H R D st' tr n j (stp1 f { st1 with place := st1.place + 1 }) (upd H4 D (.lst (ys ++ [.ref t2]))) := fun d t2 H4 e s4 hd => by
      have hD4 := s4 _ _ hD3
      have hnd : NoL d := tell_noL f _ d (by rw [e]; exact List.mem_singleton.mpr rfl)
      refine ⟨⟨tr1 ++ [d], tr3, ys ++ [.ref t2], rest, by rw [etr, e, List.append_assoc], upd_same, dps_app (dps_but (.lst hD4) But.upd (dps_same s4 hys3) hnl) (.cons (dp_but (.lst hD4) But.upd hd hnd) .nil), by simp [hlen], fun d' h => ?_⟩, (r3.same s4).butD (.lst hD4) dx dl dh du dn But.upd, m3, fun b o h1 h2 h3 h4 e => ?_⟩
      · rcases List.mem_append.mp h with h | h
        · exact hnl d' h
        · rw [List.mem_singleton.mp h]
          exact hnd
      · rw [upd_ne (ne_of_none e nD)]
        exact s4 _ _ (bt3 b o h1 h2 h3 h4 e)
    cases f with
    | row rw0 =>
      cases rw0 with
      | read r k =>
        cases Option.some.inj hw
        cases dyt with | cons g0 dyt => cases dyt with | cons g1 dyt => cases dyt with | cons g2 dyt => cases dyt with | nil =>
        cases dp_str g1
        cases dp_int g2
        refine ⟨_, rfl, _, _, _, _, rfl, rfl, hrb3, at0, rfl, _, rfl, iteF ?_⟩
        refine ⟨_, rfl, _, _, _, _, rfl, rfl, hrb3, at0, _, _, rfl, .inr (sq_STEPS T H3), rfl, (by decide +kernel), true, congrArg V.bl (by show inV (.str "read") ((["read", "set", "swap"] : List Str).map V.str) = true; decide +kernel), iteT ?_⟩
        have ok3 : FOk (stp1 (.row (.read r k)) { st1 with place := st1.place + 1 }).cells.length (.row (.read r k)) := m3.fd _ (by rw [stp1_code]; exact List.mem_of_getElem? hf)
        refine ⟨_, rfl, .inl ⟨rfl, _, .of hD3⟩, _, rfl, _, _, _, _, rfl, rfl, hrb3, at0, _, rfl, _, _, _, _, rfl, rfl, hrb3, at2, _, rfl, R.x, _, R.dx, _, _, rfl, r3.ins, T.c_Run, T.n_Run_held, rf_held, _, rfl, _, _, _, _, rfl, rfl, hrb3, at1, R.h, _, rfl, (by have z := DGet.k (k := Sum.inr r) r3.held; rw [held_get (in45 ok3.1)] at z; exact z), _, rfl, R.x, _, R.dx, _, _, rfl, r3.ins, T.c_Run, T.n_Run_cells, rf_cells, .inl ⟨R.l, _, rfl, .of r3.cells, fun t nt => ?_⟩⟩
        refine ⟨(by show 4 ≤ sizeLine; decide), fun t2 nt2 => ?_⟩
        have s4 := fun o => (same_new (o := _) nt).trans (same_new (o := o) nt2)
        have ht := fun o => same_new (o := o) nt2 _ _ upd_same
        refine ⟨D, ys, _, rfl, rfl, s4 _ _ _ hD3, by rw [sizeLine_eq]; omega, ?_⟩
        exact ⟨_, _, rfl, told _ t2 _ rfl (s4 _) (.tup (.of upd_same) (.cons (.str _) (.cons (.int _) (.cons (.int _) (.cons (.tup (.of (ht _)) ints_dps) .nil)))))⟩
      | set k e =>
        cases Option.some.inj hw
        cases dyt with | cons g0 dyt => cases dyt with | cons g1 dyt => cases dyt with | cons g2 dyt => cases dyt with | nil =>
        cases dp_int g1
        refine ⟨_, rfl, _, _, _, _, rfl, rfl, hrb3, at0, rfl, _, rfl, iteT ?_⟩
        have ok3 : FOk (stp1 (.row (.set k e)) { st1 with place := st1.place + 1 }).cells.length (.row (.set k e)) := m3.fd _ (by rw [stp1_code]; exact List.mem_of_getElem? hf)
        refine ⟨_, rfl, .inl ⟨rfl, _, .of hD3⟩, _, rfl, _, _, _, _, rfl, rfl, hrb3, at1, _, rfl, R.x, _, R.dx, _, _, rfl, r3.ins, T.c_Run, T.n_Run_cells, rf_cells, _, rfl, _, _, _, _, rfl, rfl, hrb3, at1, _, _, _, _, rfl, rfl, .of r3.cells, atK ok3.1.1 ok3.1.2 rfl, _, rfl, R.x, _, R.dx, _, _, rfl, r3.ins, T.c_Run, T.n_Run_cells, rf_cells, .inl ⟨R.l, _, rfl, .of r3.cells, fun t nt => ?_⟩⟩
        refine ⟨(by show 4 ≤ sizeLine; decide), fun t2 nt2 => ?_⟩
        have s4 := fun o => (same_new (o := _) nt).trans (same_new (o := o) nt2)
        have ht := fun o => same_new (o := o) nt2 _ _ upd_same
        refine ⟨D, ys, _, rfl, rfl, s4 _ _ _ hD3, by rw [sizeLine_eq]; omega, ?_⟩
        exact ⟨_, _, rfl, told _ t2 _ rfl (s4 _) (.tup (.of upd_same) (.cons (.str _) (.cons (.int _) (.cons (.int _) (.cons (.tup (.of (ht _)) ints_dps) .nil)))))⟩
      | swap r k e g =>
        cases Option.some.inj hw
        cases dyt with | cons g0 dyt => cases dyt with | cons g1 dyt => cases dyt with | cons g2 dyt => cases dyt with | cons g3 dyt => cases dyt with | cons g4 dyt => cases dyt with | nil =>
        cases dp_str g1
        cases dp_int g2
        refine ⟨_, rfl, _, _, _, _, rfl, rfl, hrb3, at0, rfl, _, rfl, iteF ?_⟩
        refine ⟨_, rfl, _, _, _, _, rfl, rfl, hrb3, at0, _, _, rfl, .inr (sq_STEPS T H3), rfl, (by decide +kernel), true, congrArg V.bl (by show inV (.str "swap") ((["read", "set", "swap"] : List Str).map V.str) = true; decide +kernel), iteT ?_⟩
        have ok3 : FOk (stp1 (.row (.swap r k e g)) { st1 with place := st1.place + 1 }).cells.length (.row (.swap r k e g)) := m3.fd _ (by rw [stp1_code]; exact List.mem_of_getElem? hf)
        refine ⟨_, rfl, .inl ⟨rfl, _, .of hD3⟩, _, rfl, _, _, _, _, rfl, rfl, hrb3, at0, _, rfl, _, _, _, _, rfl, rfl, hrb3, at2, _, rfl, R.x, _, R.dx, _, _, rfl, r3.ins, T.c_Run, T.n_Run_held, rf_held, _, rfl, _, _, _, _, rfl, rfl, hrb3, at1, R.h, _, rfl, (by have z := DGet.k (k := Sum.inr r) r3.held; rw [held_get (in45 ok3.1)] at z; exact z), _, rfl, R.x, _, R.dx, _, _, rfl, r3.ins, T.c_Run, T.n_Run_cells, rf_cells, .inl ⟨R.l, _, rfl, .of r3.cells, fun t nt => ?_⟩⟩
        refine ⟨(by show 4 ≤ sizeLine; decide), fun t2 nt2 => ?_⟩
        have s4 := fun o => (same_new (o := _) nt).trans (same_new (o := o) nt2)
        have ht := fun o => same_new (o := o) nt2 _ _ upd_same
        refine ⟨D, ys, _, rfl, rfl, s4 _ _ _ hD3, by rw [sizeLine_eq]; omega, ?_⟩
        exact ⟨_, _, rfl, told _ t2 _ rfl (s4 _) (.tup (.of upd_same) (.cons (.str _) (.cons (.int _) (.cons (.int _) (.cons (.tup (.of (ht _)) ints_dps) .nil)))))⟩
      | keep r e =>
        cases Option.some.inj hw
        refine ⟨_, rfl, _, _, _, _, rfl, rfl, hrb3, at0, rfl, _, rfl, iteF ?_⟩
        refine ⟨_, rfl, _, _, _, _, rfl, rfl, hrb3, at0, _, _, rfl, .inr (sq_STEPS T H3), rfl, (by decide +kernel), false, congrArg V.bl (by show inV (.str "keep") ((["read", "set", "swap"] : List Str).map V.str) = false; decide +kernel), ?_⟩
        exact iteF ⟨_, _, rfl, quiet rfl⟩
      | coin r =>
        cases Option.some.inj hw
        refine ⟨_, rfl, _, _, _, _, rfl, rfl, hrb3, at0, rfl, _, rfl, iteF ?_⟩
        refine ⟨_, rfl, _, _, _, _, rfl, rfl, hrb3, at0, _, _, rfl, .inr (sq_STEPS T H3), rfl, (by decide +kernel), false, congrArg V.bl (by show inV (.str "coin") ((["read", "set", "swap"] : List Str).map V.str) = false; decide +kernel), ?_⟩
        exact iteF ⟨_, _, rfl, quiet rfl⟩
      | iff e a b => exact hfok.elim
      | times e a => exact hfok.elim
      | ans e =>
        cases Option.some.inj hw
        refine ⟨_, rfl, _, _, _, _, rfl, rfl, hrb3, at0, rfl, _, rfl, iteF ?_⟩
        refine ⟨_, rfl, _, _, _, _, rfl, rfl, hrb3, at0, _, _, rfl, .inr (sq_STEPS T H3), rfl, (by decide +kernel), false, congrArg V.bl (by show inV (.str "answer") ((["read", "set", "swap"] : List Str).map V.str) = false; decide +kernel), ?_⟩
        exact iteF ⟨_, _, rfl, quiet rfl⟩
    | «unless» e p =>
      cases Option.some.inj hw
      refine ⟨_, rfl, _, _, _, _, rfl, rfl, hrb3, at0, rfl, _, rfl, iteF ?_⟩
      refine ⟨_, rfl, _, _, _, _, rfl, rfl, hrb3, at0, _, _, rfl, .inr (sq_STEPS T H3), rfl, (by decide +kernel), false, congrArg V.bl (by show inV (.str "unless") ((["read", "set", "swap"] : List Str).map V.str) = false; decide +kernel), ?_⟩
      exact iteF ⟨_, _, rfl, quiet rfl⟩
    | on p =>
      cases Option.some.inj hw
      refine ⟨_, rfl, _, _, _, _, rfl, rfl, hrb3, at0, rfl, _, rfl, iteF ?_⟩
      refine ⟨_, rfl, _, _, _, _, rfl, rfl, hrb3, at0, _, _, rfl, .inr (sq_STEPS T H3), rfl, (by decide +kernel), false, congrArg V.bl (by show inV (.str "on") ((["read", "set", "swap"] : List Str).map V.str) = false; decide +kernel), ?_⟩
      exact iteF ⟨_, _, rfl, quiet rfl⟩
    | rounds e =>
      cases Option.some.inj hw
      refine ⟨_, rfl, _, _, _, _, rfl, rfl, hrb3, at0, rfl, _, rfl, iteF ?_⟩
      refine ⟨_, rfl, _, _, _, _, rfl, rfl, hrb3, at0, _, _, rfl, .inr (sq_STEPS T H3), rfl, (by decide +kernel), false, congrArg V.bl (by show inV (.str "rounds") ((["read", "set", "swap"] : List Str).map V.str) = false; decide +kernel), ?_⟩
      exact iteF ⟨_, _, rfl, quiet rfl⟩
    | round p =>
      cases Option.some.inj hw
      refine ⟨_, rfl, _, _, _, _, rfl, rfl, hrb3, at0, rfl, _, rfl, iteF ?_⟩
      refine ⟨_, rfl, _, _, _, _, rfl, rfl, hrb3, at0, _, _, rfl, .inr (sq_STEPS T H3), rfl, (by decide +kernel), false, congrArg V.bl (by show inV (.str "round") ((["read", "set", "swap"] : List Str).map V.str) = false; decide +kernel), ?_⟩
      exact iteF ⟨_, _, rfl, quiet rfl⟩
    | hole => exact hfok.elim
end

end M

set_option Elab.async false
set_option linter.all false
set_option maxRecDepth 100000
set_option maxHeartbeats 2000000
namespace M
open PySem PySem.Spec PyProof.Rows L2

section
variable {n : Nat}
/-- each row is fit, or a hole -/
def Fit (n : Nat) (c : List FR) : Prop := ∀ f ∈ c, f = .hole ∨ FOk n f
theorem Fit.snoc {c : List FR} {g : FR} (hc : Fit n c) (hg : g = .hole ∨ FOk n g) : Fit n (c ++ [g]) := fun f hf => by
  rcases List.mem_append.mp hf with h | h
  · exact hc f h
  · rw [List.mem_singleton.mp h]
    exact hg
theorem Fit.set {c : List FR} {g : FR} {i : Nat} (hc : Fit n c) (hg : g = .hole ∨ FOk n g) : Fit n (c.set i g) := fun f hf => by
  rcases List.mem_or_eq_of_mem_set hf with h | h
  · exact hc f h
  · rw [h]
    exact hg
mutual
theorem putRow_fit : ∀ (r : Row) {c : List FR} {deep loops : Nat}, Fit n c → r.ok n deep loops → Fit n (putRow r c)
  | .read r k, c, _, _, hc, h => hc.snoc (.inr h)
  | .set k e, c, _, _, hc, h => hc.snoc (.inr h)
  | .swap r k e f, c, _, _, hc, h => hc.snoc (.inr h)
  | .keep r e, c, _, _, hc, h => hc.snoc (.inr h)
  | .coin r, c, _, _, hc, h => hc.snoc (.inr h.1)
  | .ans e, c, _, _, hc, h => hc.snoc (.inr h)
  | .iff e a b, c, _, _, hc, h => by
    have z1 := (putRows_fit a (hc.snoc (.inl rfl)) h.2.1).snoc (g := FR.hole) (.inl rfl)
    have z2 := putRows_fit b (z1.set (g := FR.unless e ((putRows a (c ++ [FR.hole])).length + 1)) (i := c.length) (.inr h.1)) h.2.2
    exact z2.set (g := FR.on _) (.inr trivial)
  | .times e a, c, deep, loops, hc, h => by
    have z : Fit n (c ++ [FR.rounds e, FR.hole]) := by
      have := (hc.snoc (g := FR.rounds e) (.inr h.1)).snoc (g := FR.hole) (.inl rfl)
      rw [List.append_assoc] at this
      exact this
    exact ((putRows_fit a z h.2.2).snoc (g := FR.on _) (.inr trivial)).set (g := FR.round _) (.inr trivial)
theorem putRows_fit : ∀ (rs : List Row) {c : List FR} {deep loops : Nat}, Fit n c → rowsOk n deep loops rs → Fit n (putRows rs c)
  | [], c, _, _, hc, _ => hc
  | r :: rs, c, _, _, hc, h => putRows_fit rs (putRow_fit r hc h.2.1) h.2.2
end
theorem code_fok {rs : List Row} {deep loops : Nat} (h : rowsOk n deep loops rs) : ∀ f ∈ codeOf rs, FOk n f := fun f hf => by
  have z : Fit n (codeOf rs) := (putRows_fit rs (fun _ h => by cases h) h).snoc (.inr ⟨⟨by decide, by decide⟩, by show 0 ≤ 6; decide⟩)
  rcases z f hf with e | e
  · obtain ⟨s, hs⟩ := code_hd hf
    rw [e] at hs
    cases hs
  · exact e
end
/-- a call from a state of the vault begins well -/
theorem mst0_ok {v : Vlt} {d : Str × Int × List Row} {hs fs : List Int} {a : Int} (g : VGood v) (hd : d ∈ v.deeds) (so : StateOk (v.cells.map (·.1)) hs) (ha : 0 ≤ a ∧ a ≤ 9) (hf : ∀ f ∈ fs, 0 ≤ f ∧ f ≤ 1) : MOk (mst0 (codeOf d.2.2) (v.cells.map (·.1)) hs fs a) := by
  have lh : v.cells.length = hs.length := by have := so.1; rw [List.length_map] at this; exact this
  refine ⟨fun s _ => ?_, fun c hc => ?_, fun s hs => ?_, so.1, ?_, fun f hf => ?_, hf⟩
  · show 0 ≤ r0 a s ∧ r0 a s ≤ 9
    unfold r0
    split
    · exact ha
    · decide
  · have hc : c ∈ hs := hc
    obtain ⟨i, hi, e⟩ := List.mem_iff_getElem.mp hc
    have hi' : i < v.cells.length := by omega
    have ok := g.cs _ (List.getElem_mem hi')
    have := so.2 i _ c (by rw [List.getElem?_map, List.getElem?_eq_getElem hi']; rfl) (by rw [List.getElem?_eq_getElem hi, e])
    have h9 : v.cells[i].1 ≤ 9 := ok.2.1
    have h8 : 0 ≤ c ∧ c < v.cells[i].1 := this
    omega
  · obtain ⟨c, hc, rfl⟩ := List.mem_map.mp hs
    exact ⟨(g.cs c hc).1, (g.cs c hc).2.1⟩
  · show hs.length ≤ 6
    have := g.c1
    omega
  · show FOk hs.length f
    rw [← lh]
    exact code_fok (g.ds d hd).2.2.1 f hf
theorem none_of {H H' : Hp} {x : Addr} (s : Same H H') (h : H' x = none) : H x = none := by
  cases e : H x with
  | none => rfl
  | some o => rw [s _ _ e] at h; cases h
theorem deed_eq {v : Vlt} (n : (v.deeds.map (·.1)).Nodup) {d e : Str × Int × List Row} (hd : d ∈ v.deeds) (he : e ∈ v.deeds) (h : d.1 = e.1) : d = e := by
  obtain ⟨i, hi, ei⟩ := List.mem_iff_getElem.mp hd
  obtain ⟨j, hj, ej⟩ := List.mem_iff_getElem.mp he
  have := nd_ixG n (x := d.1) (i := i) (j := j) (by rw [List.getElem?_map, List.getElem?_eq_getElem hi, ei]; rfl) (by rw [List.getElem?_map, List.getElem?_eq_getElem hj, ej, h]; rfl)
  subst this
  exact ei.symm.trans ej
section
variable {P : Program} {w : World} {K : PySem.W.Frag} {mg : Str → Option Value} {base : Heap}
def spStartOf (K : PySem.W.Frag) : Sp := fun vs H Q _ => ∃ (p t : Addr) (v : Vlt) (i : Nat) (c : Str × Int), vs = [.ref p, .ref t] ∧ VaultAt K H p v ∧ VOk v ∧ H t = some (.tup [.str c.1, .int c.2]) ∧ v.calls[i]? = some c ∧ ∀ (y : V) (H' : Hp), Same H H' → StartAt K H' v c y → Q y H'
theorem ca_start_of (T : Txt w K mg) : Ca P w K mg base 4 "start_of" (spStartOf K) := by
  refine ca_of (N := ["vault", "call"]) (ps := ["vault", "call"]) T.f_start_of T.g_start_of ⟨rfl, rfl, rfl, by decide +kernel, rfl, by decide +kernel, by decide +kernel⟩ (fun _ _ _ _ _ _ us hl => match us, hl with | [_, _], _ => rfl)
    (fun vs H Q E h => by obtain ⟨p, t, v, i, c, rfl, hv, ok, ht, hc, q⟩ := h; rfl) (fun cdv A outer s H vs Q E hr h => ?_)
  have nd : (["vault", "call"] : List Str).Nodup := by decide +kernel
  obtain ⟨p, t, v, i, c, rfl, hv, ok, ht, hc, q⟩ := h
  refine ⟨_, (pss_one (ps_ret (pe_ix ix_list (pe_me0 (me_Vault_starts T) hr (pv 0)) (pe_ca (ca_call_number T) hr (pa_cons (pe_ca (ca_call_numbers T) hr (pa_cons (pv 0) pa_nil)) (pa_cons (pv 1) pa_nil))) (fun _ _ => rfl)))), ?_⟩
  obtain ⟨dx, fs, e1, e2⟩ := hv.me "starts"
  refine ⟨_, rfl, p, dx, fs, rfl, e1, e2, p, v, rfl, hv, ok, fun a ys H1 s1 hl el hr => ?_⟩
  refine ⟨_, rfl, p, v, rfl, hv.same s1, ok, fun d H2 s2 hd => ⟨_, rfl, d, t, _, c, i, rfl, hd, (s1.trans s2) _ _ ht, numK_val (calls_nd ok.nd) hc, ?_⟩⟩
  have hi : i < ys.length := by
    have := (List.getElem?_eq_some_iff.mp hc).1
    omega
  obtain ⟨c', hc', hst⟩ := hr i ys[i] (List.getElem?_eq_getElem hi)
  rw [hc] at hc'
  cases (Option.some.inj hc')
  refine ⟨a, ys, _, ys[i], rfl, rfl, .of (s2 _ _ hl), atI_nat (List.getElem?_eq_getElem hi), q _ H2 (s1.trans s2) ?_⟩
  obtain ⟨dd, h1, h2, h3⟩ := hst
  exact ⟨dd, h1, h2, dp_same s2 h3⟩
/-- the run of a call, at its beginning -/
def RunNew (K : PySem.W.Frag) (H H' : Hp) (R : RA) (st : Mst) : Prop := Same H H' ∧ RunAt K H' R st ∧ H R.x = none ∧ H R.l = none ∧ H R.h = none ∧ H R.u = none
structure CallIs (K : PySem.W.Frag) (H : Hp) (p b t f : Addr) (v : Vlt) (hs fs : List Int) (d : Str × Int × List Row) (a : Int) : Prop where
  vt : VaultAt K H p v
  gd : VGood v
  st : SqT K H b (hs.map .int)
  so : StateOk (v.cells.map (·.1)) hs
  tu : H t = some (.tup [.str d.1, .int a])
  de : d ∈ v.deeds
  ar : 0 ≤ a ∧ a < d.2.1
  fl : SqL K H f (fs.map .int)
  f4 : fs.length ≤ 4
  f1 : ∀ f ∈ fs, 0 ≤ f ∧ f ≤ 1
theorem CallIs.call {H : Hp} {p b t f : Addr} {v : Vlt} {hs fs : List Int} {d : Str × Int × List Row} {a : Int} (c : CallIs K H p b t f v hs fs d a) : ∃ i : Nat, v.calls[i]? = some (d.1, a) := by
  have : (d.1, a) ∈ v.calls := by
    unfold Vlt.calls
    refine List.mem_flatMap.mpr ⟨d, c.de, List.mem_map.mpr ⟨a.toNat, List.mem_range.mpr ?_, ?_⟩⟩
    · have := c.ar
      omega
    · exact Prod.ext rfl (Int.toNat_of_nonneg c.ar.1)
  obtain ⟨i, hi, e⟩ := List.mem_iff_getElem.mp this
  exact ⟨i, by rw [List.getElem?_eq_getElem hi, e]⟩
theorem CallIs.mok {H : Hp} {p b t f : Addr} {v : Vlt} {hs fs : List Int} {d : Str × Int × List Row} {a : Int} (c : CallIs K H p b t f v hs fs d a) : MOk (mst0 (codeOf d.2.2) (v.cells.map (·.1)) hs fs a) :=
  mst0_ok c.gd c.de c.so ⟨c.ar.1, by have := c.ar.2; have := (c.gd.ds d c.de).2.1.2; omega⟩ c.f1
def spRunOf (K : PySem.W.Frag) : Sp := fun vs H Q _ => ∃ (p b t f : Addr) (v : Vlt) (hs fs : List Int) (d : Str × Int × List Row) (a : Int), vs = [.ref p, .ref b, .ref t, .ref f] ∧ CallIs K H p b t f v hs fs d a ∧
  ∀ (R : RA) (H' : Hp), RunNew K H H' R (mst0 (codeOf d.2.2) (v.cells.map (·.1)) hs fs a) → Q (.ref R.x) H'
theorem ca_run_of (T : Txt w K mg) : Ca P w K mg base 5 "run_of" (spRunOf K) := by
  refine ca_of (N := ["vault", "state", "call", "coins"]) (ps := ["vault", "state", "call", "coins"]) T.f_run_of T.g_run_of ⟨rfl, rfl, rfl, by decide +kernel, rfl, by decide +kernel, by decide +kernel⟩ (fun _ _ _ _ _ _ us hl => match us, hl with | [_, _, _, _], _ => rfl)
    (fun vs H Q E h => by obtain ⟨p, b, t, f, v, hs, fs, d, a, rfl, c, q⟩ := h; rfl) (fun cdv A outer s H vs Q E hr h => ?_)
  have nd : (["vault", "state", "call", "coins"] : List Str).Nodup := by decide +kernel
  obtain ⟨p, b, t, f, v, hs, fs, d, a, rfl, c, q⟩ := h
  refine ⟨_, (pss_cons (ps_expr (pe_ca (ca_check_state T) hr (pa_cons (pv 0) (pa_cons (pv 1) pa_nil))))
      (pss_cons (ps_expr (pe_ca (ca_check_call T) hr (pa_cons (pv 0) (pa_cons (pv 2) pa_nil))))
      (pss_cons (ps_if (PW.pt (pw_or (pt_not (pt_val (pe_is .list T.b_isinstance (pv 3) T.b_list boot_list))) (pw_or (pt_cmpR op_gt (pe_callB call_len_seq (by rfl) T.b_len PySem.boot_len (pa_cons (pv 3) pa_nil)) (pe_gi T.i_MOST_FALLS) (nomark _)) (pw_or1 (pt_not (pt_val (pe_ca (ca_are_falls T) hr (pa_cons (pv 3) pa_nil)))))))) (pss_one ps_never) pss_nil)
      (pss_one (ps_ret (pe_ma (ma_Run T) hr (pa_cons (pe_ca (ca_start_of T) hr (pa_cons (pv 0) (pa_cons (pv 2) pa_nil))) (pa_cons (pe_me0 (me_Vault_sizes T) hr (pv 0)) (pa_cons (pe_callTy call_list_of (by rfl) T.b_list boot_list (pa_cons (pv 1) pa_nil)) (pa_cons (pe_callTy call_list_of (by rfl) T.b_list boot_list (pa_cons (pv 3) pa_nil)) pa_nil)))))))))), ?_⟩
  obtain ⟨i, hc⟩ := c.call
  refine ⟨_, rfl, _, rfl, p, b, v, hs, rfl, c.vt, c.gd.ok, c.st, c.so, fun H1 s1 => ?_⟩
  refine ⟨_, rfl, _, rfl, p, t, v, i, (d.1, a), rfl, c.vt.same s1, c.gd.ok, s1 _ _ c.tu, hc, fun H2 s2 => ?_⟩
  have s12 := s1.trans s2
  refine ⟨_, rfl, _, _, rfl, .list (s12.seq c.fl), _, rfl, iteF ?_⟩
  have l4 := c.f4
  refine ⟨_, rfl, _, _, rfl, .inl (s12.seq c.fl), _, _, rfl, rfl, _, rfl, ?_⟩
  rw [decide_eq_false (show ¬ (4 : Int) < ((fs.map V.int).length : Nat) from by rw [List.length_map]; omega)]
  refine iteF ⟨_, rfl, f, fs, rfl, s12.seq c.fl, c.f1, _, rfl, iteF ?_⟩
  refine ⟨_, rfl, _, rfl, p, t, v, i, (d.1, a), rfl, c.vt.same s12, c.gd.ok, s12 _ _ c.tu, hc, fun y H3 s3 hst => ?_⟩
  obtain ⟨d', hd', en, hy⟩ := hst
  cases deed_eq c.gd.nd hd' c.de en
  obtain ⟨ya, yxs, rfl, hya, hyd⟩ := dp_tup hy
  have s03 := s12.trans s3
  obtain ⟨dx, gs, e1, e2⟩ := (c.vt.same s03).me "sizes"
  refine ⟨_, rfl, p, dx, gs, rfl, e1, e2, p, v, rfl, c.vt.same s03, c.gd.c1, fun sa H4 s4 hsz => ?_⟩
  have s04 := s03.trans s4
  refine ⟨_, rfl, b, _, rfl, .inr (same_t s04 c.st), fun l nl => ?_⟩
  have s5 : Same H4 (upd H4 l (.lst (hs.map V.int))) := same_new nl
  have hl5 : upd H4 l (.lst (hs.map V.int)) l = some (.lst (hs.map V.int)) := upd_same
  generalize upd H4 l (.lst (hs.map V.int)) = H5 at s5 hl5
  have s05 := s04.trans s5
  refine ⟨_, rfl, f, _, rfl, .inl (s05.seq c.fl), fun n nn => ?_⟩
  have s6 : Same H5 (upd H5 n (.lst (fs.map V.int))) := same_new nn
  have hn6 : upd H5 n (.lst (fs.map V.int)) n = some (.lst (fs.map V.int)) := upd_same
  have nnl : n ≠ l := fun e => by rw [e, hl5] at nn; cases nn
  generalize upd H5 n (.lst (fs.map V.int)) = H6 at s6 hn6
  have s06 := s05.trans s6
  intro x dxx hx hdx ne
  have s7 : Same H6 (upd (upd H6 dxx (.own x)) x (.ins (He.ga K "Run") dxx [])) := (same_new hdx).trans (same_new (by rw [upd_ne (Ne.symm ne)]; exact hx))
  have hx7 : upd (upd H6 dxx (.own x)) x (.ins (He.ga K "Run") dxx []) x = some (.ins (He.ga K "Run") dxx []) := upd_same
  have s07 := s06.trans s7
  refine ⟨x, dxx, ya, sa, l, n, false, codeOf d.2.2, v.cells.map (·.1), hs, fs, a, rfl, hx7, dp_same (((s4.trans s5).trans s6).trans s7) hy, .of (((s5.trans s6).trans s7) _ _ hsz), (s6.trans s7) _ _ hl5, .inl ⟨rfl, s7 _ _ hn6, nnl⟩, fun R H8 ex el ect en hh hu bt r => ⟨rfl, ?_⟩⟩
  have nx : H x = none := none_of s06 hx
  rw [← ex]
  refine q R H8 ⟨fun b' o e => bt _ _ (ne_of_none e nx) (s07 _ _ e), r, by rw [ex]; exact nx, by rw [el]; exact none_of s04 nl, none_of s07 hh, none_of s07 hu⟩
theorem RunNew.fin {H H1 H2 : Hp} {R : RA} {st : Mst} (n : RunNew K H H1 R st) (b : Bt R H1 H2) : Same H H2 := fun a o e => by
  obtain ⟨s, _, nx, nl, nh, nu⟩ := n
  exact b a o (ne_of_none e nx) (ne_of_none e nl) (ne_of_none e nh) (ne_of_none e nu) (s _ _ e)
def spCalled (K : PySem.W.Frag) : Sp := fun vs H Q _ => ∃ (p b t f : Addr) (v : Vlt) (hs fs : List Int) (d : Str × Int × List Row) (a : Int) (n : Nat) (st' : Mst) (r : Int), vs = [.ref p, .ref b, .ref t, .ref f] ∧ CallIs K H p b t f v hs fs d a ∧
  Fin n (mst0 (codeOf d.2.2) (v.cells.map (·.1)) hs fs a) st' ∧ st'.res = some r ∧ ∀ (z : Addr) (H' : Hp), Same H H' → H z = none → Dp K H' (.ref z) (.tuple [.int r, cellsD st']) → Q (.ref z) H'
theorem ca_called (T : Txt w K mg) : Ca P w K mg base 11 "called" (spCalled K) := by
  refine ca_of (N := ["vault", "state", "call", "coins", "run"]) (ps := ["vault", "state", "call", "coins"]) T.f_called T.g_called ⟨rfl, rfl, rfl, by decide +kernel, rfl, by decide +kernel, by decide +kernel⟩ (fun _ _ _ _ _ _ us hl => match us, hl with | [_, _, _, _], _ => rfl)
    (fun vs H Q E h => by obtain ⟨p, b, t, f, v, hs, fs, d, a, n, st', r, rfl, c, fin, hr', q⟩ := h; rfl) (fun cdv A outer s H vs Q E hr h => ?_)
  have nd : (["vault", "state", "call", "coins", "run"] : List Str).Nodup := by decide +kernel
  obtain ⟨p, b, t, f, v, hs, fs, d, a, n, st', r, rfl, c, fin, hr', q⟩ := h
  refine ⟨_, (pss_cons (ps_set (i := 4) nd rfl (.inl rfl) (pe_ca (ca_run_of T) hr (pa_cons (pv 0) (pa_cons (pv 1) (pa_cons (pv 2) (pa_cons (pv 3) pa_nil))))))
      (pss_cons (ps_expr (pe_ca (ca_finish T) hr (pa_cons (pv 4) pa_nil)))
      (pss_one (ps_ret (pe_tup (pa_cons (pe_fld (pv 4) rfl) (pa_cons (pe_tupleOf (by rfl) T.b_tuple (pe_fld (pv 4) rfl)) pa_nil))))))), ?_⟩
  refine ⟨_, rfl, _, rfl, _, rfl, _, rfl, p, b, t, f, v, hs, fs, d, a, rfl, c, fun R H1 rn => ?_⟩
  refine ⟨_, rfl, R, _, st', n, rfl, rn.2.1, c.mok, fin, fun H2 bt r2 => ?_⟩
  refine ⟨_, rfl, R.x, _, R.dx, _, _, rfl, r2.ins, T.c_Run, T.n_Run_result, rf_result, _, rfl, R.x, _, R.dx, _, _, rfl, r2.ins, T.c_Run, T.n_Run_cells, rf_cells, .inl ⟨R.l, _, rfl, .of r2.cells, fun u nu => ?_⟩⟩
  refine ⟨(by show 2 ≤ sizeLine; decide), fun z nz => ?_⟩
  rw [hr']
  have s12 := rn.fin bt
  refine q z _ ((s12.trans (same_new nu)).trans (same_new nz)) (none_of (s12.trans (same_new nu)) nz) (.tup (.of upd_same) (.cons (.int _) (.cons (.tup (.of (same_new nz _ _ upd_same)) ints_dps) .nil)))
end

end M

set_option Elab.async false
set_option linter.all false
set_option maxRecDepth 100000
set_option maxHeartbeats 2000000
namespace M
open PySem PySem.Spec PyProof.Rows L2

section
variable {P : Program} {w : World} {K : PySem.W.Frag} {mg : Str → Option Value} {base : Heap}
def spSteps (K : PySem.W.Frag) : Sp := fun vs H Q _ => ∃ (p b t f : Addr) (v : Vlt) (hs fs : List Int) (d : Str × Int × List Row) (a : Int) (n : Nat) (st' : Mst) (tr : List PyData), vs = [.ref p, .ref b, .ref t, .ref f] ∧ CallIs K H p b t f v hs fs d a ∧
  FinT n (mst0 (codeOf d.2.2) (v.cells.map (·.1)) hs fs a) st' tr ∧ tr.length ≤ 100000 ∧ ∀ (z : Addr) (ys : List V) (H' : Hp), Same H H' → H z = none → H' z = some (.lst ys) → DpAll K H' ys tr → Q (.ref z) H'
theorem ca_steps (T : Txt w K mg) : Ca P w K mg base 12 "steps" (spSteps K) := by
  refine ca_of (N := ["vault", "state", "call", "coins"]) (ps := ["vault", "state", "call", "coins"]) T.f_steps T.g_steps ⟨rfl, rfl, rfl, by decide +kernel, rfl, by decide +kernel, by decide +kernel⟩ (fun _ _ _ _ _ _ us hl => match us, hl with | [_, _, _, _], _ => rfl)
    (fun vs H Q E h => by obtain ⟨p, b, t, f, v, hs, fs, d, a, n, st', tr, rfl, c, fin, hn, q⟩ := h; rfl) (fun cdv A outer s H vs Q E hr h => ?_)
  have nd : (["vault", "state", "call", "coins"] : List Str).Nodup := by decide +kernel
  obtain ⟨p, b, t, f, v, hs, fs, d, a, n, st', tr, rfl, c, fin, hn, q⟩ := h
  refine ⟨_, (pss_one (ps_ret (pe_ca (ca_finish_telling T) hr (pa_cons (pe_ca (ca_run_of T) hr (pa_cons (pv 0) (pa_cons (pv 1) (pa_cons (pv 2) (pa_cons (pv 3) pa_nil))))) pa_nil)))), ?_⟩
  refine ⟨_, rfl, _, rfl, _, rfl, _, rfl, p, b, t, f, v, hs, fs, d, a, rfl, c, fun R H1 rn => ?_⟩
  refine ⟨R, _, st', n, tr, rfl, rn.2.1, c.mok, fin, hn, fun z ys H2 bt r2 nz hz hys => ?_⟩
  exact q z ys H2 (rn.fin bt) (none_of rn.1 nz) hz hys
end

end M

set_option Elab.async false
set_option linter.all false
set_option maxRecDepth 100000
set_option maxHeartbeats 2000000
namespace M
open PySem PySem.Spec PyProof.Rows L2

/-! ### what the law draws -/
def PoolAt (H : Hp) (a : Addr) : Prop := ∃ g s n : Int, H a = some (.lst [.int g, .int s, .int n]) ∧ 0 ≤ g ∧ (0 ≤ s ∧ s < 1099511627776) ∧ 0 ≤ n
section
variable {P : Program} {w : World} {K : PySem.W.Frag} {mg : Str → Option Value} {base : Heap}
def spPool (K : PySem.W.Frag) : Sp := fun vs H Q _ => ∃ (a : Addr) (ns : List Int) (k : Int), vs = [.ref a, .int k] ∧ SqL K H a (ns.map .int) ∧ ns.length ≤ 63 ∧ (0 ≤ k ∧ k ≤ 63) ∧ ∀ (p : Addr) (H' : Hp), Same H H' → H p = none → PoolAt H' p → Q (.ref p) H'
theorem ca_l_pool (T : Txt w K mg) : Ca P w K mg base 1 "_law_pool" (spPool K) := by
  refine ca_of (N := ["_law_script", "_law_k", "_law_cell", "_law_seed"]) (ps := ["_law_script", "_law_k"]) T.f_l_pool T.g_law_pool ⟨rfl, rfl, rfl, by decide +kernel, rfl, by decide +kernel, by decide +kernel⟩ (fun _ _ _ _ _ _ us hl => match us, hl with | [_, _], _ => rfl)
    (fun vs H Q E h => by obtain ⟨a, ns, k, rfl, ha, hl, hk, q⟩ := h; rfl) (fun cdv A outer s H vs Q E hr h => ?_)
  have nd : (["_law_script", "_law_k", "_law_cell", "_law_seed"] : List Str).Nodup := by decide +kernel
  obtain ⟨a, ns, k, rfl, ha, hl, hk, q⟩ := h
  refine ⟨_, (pss_cons (ps_if (pt_cmpR op_eq (pe_callB call_len_seq (by rfl) T.b_len PySem.boot_len (pa_cons (pv 0) pa_nil)) pe_int (nomark _)) (pss_one (ps_ret (pe_lst (pa_cons pe_int (pa_cons (pe_op op_add pe_int (pe_op op_mul pe_int (pv 1))) (pa_cons pe_int pa_nil)))))) pss_nil)
      (pss_cons (ps_set (i := 2) nd rfl (.inl rfl) (pe_callB call_abs (by rfl) T.b_abs boot_abs (pa_cons (pe_ix ix_list (pv 0) (pe_op op_mod (pv 1) (pe_callB call_len_seq (by rfl) T.b_len PySem.boot_len (pa_cons (pv 0) pa_nil))) (fun _ _ => rfl)) pa_nil)))
      (pss_cons (ps_set (i := 3) nd rfl (.inl rfl) (pe_op op_add (pe_op op_add (pe_op op_mod (pe_callTy call_int1 (by rfl) T.b_int boot_int (pa_cons (pv 2) pa_nil)) pe_int) (pe_op op_mul pe_int (pv 1))) (pe_callTy call_int1 (by rfl) T.b_int boot_int (pa_cons (pe_cmpR op_lt (pe_ix ix_list (pv 0) (pe_op op_mod (pv 1) (pe_callB call_len_seq (by rfl) T.b_len PySem.boot_len (pa_cons (pv 0) pa_nil))) (fun _ _ => rfl)) pe_int (nomark _)) pa_nil))))
      (pss_cons (ps_if (PW.pt (pw_and (pt_cmpR op_lt (pv 1) (pe_callB call_len_seq (by rfl) T.b_len PySem.boot_len (pa_cons (pv 0) pa_nil)) (nomark _)) (pw_and1 (pt_cmpR op_ge (pv 2) (pe_op op_pow pe_int pe_int) (nomark _))))) (pss_one (ps_ret (pe_lst (pa_cons (pv 2) (pa_cons (pv 3) (pa_cons pe_int pa_nil)))))) pss_nil)
      (pss_one (ps_ret (pe_lst (pa_cons pe_int (pa_cons (pv 3) (pa_cons pe_int pa_nil)))))))))), ?_⟩
  refine ⟨_, rfl, _, _, rfl, .inl ha, rfl, _, rfl, ?_⟩
  by_cases c : ns.length = 0
  · rw [decide_eq_true (show V.int ((ns.map V.int).length : Nat) = V.int 0 from by rw [List.length_map, c]; rfl)]
    refine iteT ⟨_, rfl, _, _, rfl, rfl, .inl (by decide), _, _, rfl, rfl, (by show 3 ≤ sizeLine; decide), fun p np => ?_⟩
    exact q p _ (same_new np) np ⟨_, _, _, upd_same, by decide, by omega, by decide⟩
  · rw [decide_eq_false (show ¬ V.int ((ns.map V.int).length : Nat) = V.int 0 from fun z => c (by have := V.int.inj z; rw [List.length_map] at this; omega))]
    refine iteF ?_
    have hm0 := Int.emod_nonneg k (show ((ns.map V.int).length : Int) ≠ 0 by rw [List.length_map]; omega)
    have hm1 := Int.emod_lt_of_pos k (show (0 : Int) < ((ns.map V.int).length : Nat) by rw [List.length_map]; omega)
    have hat := atK (l := ns) hm0 hm1 (by rw [List.length_map])
    generalize ns.getD (k % ((ns.map V.int).length : Nat)).toNat 0 = x at hat
    have pos : (fun (_ j : Int) => 0 < j) k ((ns.map V.int).length : Nat) := by show (0 : Int) < ((ns.map V.int).length : Nat); rw [List.length_map]; omega
    refine ⟨_, rfl, _, rfl, _, rfl, _, _, rfl, .inl ha, _, _, rfl, rfl, pos, _, _, _, _, rfl, rfl, ha, hat, _, rfl, ?_⟩
    have hx : 0 ≤ (if x < 0 then -x else x) := by split <;> omega
    generalize (if x < 0 then -x else x) = z at hx
    refine ⟨_, rfl, .inl ⟨_, rfl, _, _, rfl, rfl, (by show (0 : Int) < 2147483629; decide), _, rfl, _, _, rfl, rfl, .inl (by decide), _, _, rfl, rfl, ?_⟩⟩
    refine ⟨_, rfl, _, rfl, _, rfl, _, _, rfl, .inl ha, _, _, rfl, rfl, pos, _, _, _, _, rfl, rfl, ha, hat, _, _, rfl, rfl, .inr ⟨_, rfl, _, _, rfl, rfl, ?_⟩⟩
    have s0 : 0 ≤ (if decide (x < 0) = true then (1 : Int) else 0) ∧ (if decide (x < 0) = true then (1 : Int) else 0) ≤ 1 := by split <;> omega
    have z0 := Int.emod_nonneg z (show (2147483629 : Int) ≠ 0 by decide)
    have z1 := Int.emod_lt_of_pos z (show (0 : Int) < 2147483629 by decide)
    have sb : 0 ≤ z % 2147483629 + 1009 * k + (if decide (x < 0) = true then (1 : Int) else 0) ∧ z % 2147483629 + 1009 * k + (if decide (x < 0) = true then (1 : Int) else 0) < 1099511627776 := by omega
    refine ⟨_, rfl, _, rfl, _, _, rfl, .inl ha, _, _, rfl, rfl, _, rfl, ?_⟩
    have no : ∀ p, H p = none → Q (.ref p) (upd H p (.lst [.int 0, .int (z % 2147483629 + 1009 * k + (if decide (x < 0) = true then (1 : Int) else 0)), .int 0])) := fun p np => q p _ (same_new np) np ⟨_, _, _, upd_same, by decide, sb, by decide⟩
    by_cases c1 : k < ((ns.map V.int).length : Nat)
    · rw [decide_eq_true c1]
      refine iteT ⟨_, rfl, _, _, rfl, rfl, ⟨by decide, by decide, by decide⟩, _, _, rfl, rfl, _, rfl, ?_⟩
      by_cases c2 : (10 ^ (18 : Int).toNat : Int) ≤ z
      · rw [decide_eq_true c2]
        refine iteT ⟨_, rfl, _, rfl, (by show 3 ≤ sizeLine; decide), fun p np => ?_⟩
        exact q p _ (same_new np) np ⟨_, _, _, upd_same, hx, sb, by decide⟩
      · rw [decide_eq_false c2]
        exact iteF ⟨_, rfl, (by show 3 ≤ sizeLine; decide), no⟩
    · rw [decide_eq_false c1]
      exact iteF ⟨_, rfl, (by show 3 ≤ sizeLine; decide), no⟩
def spDraw : Sp := fun vs H Q _ => ∃ (a : Addr) (m : Int), vs = [.ref a, .int m] ∧ PoolAt H a ∧ (1 ≤ m ∧ m ≤ 1000) ∧ ∀ (i : Int) (H' : Hp), But a H H' → PoolAt H' a → (0 ≤ i ∧ i < m) → Q (.int i) H'
theorem ca_l_draw (T : Txt w K mg) : Ca P w K mg base 1 "_law_draw" (spDraw) := by
  refine ca_of (N := ["_law_pool_here", "_law_many", "_law_digit", "_law_number"]) (ps := ["_law_pool_here", "_law_many"]) T.f_l_draw T.g_law_draw ⟨rfl, rfl, rfl, by decide +kernel, rfl, by decide +kernel, by decide +kernel⟩ (fun _ _ _ _ _ _ us hl => match us, hl with | [_, _], _ => rfl)
    (fun vs H Q E h => by obtain ⟨a, m, rfl, ⟨g, sd, n, hp, hg, hs, hn⟩, hm, q⟩ := h; rfl) (fun cdv A outer s H vs Q E hr h => ?_)
  have nd : (["_law_pool_here", "_law_many", "_law_digit", "_law_number"] : List Str).Nodup := by decide +kernel
  obtain ⟨a, m, rfl, ⟨g, sd, n, hp, hg, hs, hn⟩, hm, q⟩ := h
  refine ⟨_, (pss_cons (ps_if (pt_cmpR op_gt (pe_ix ix_list (pv 0) pe_int (fun _ _ => rfl)) pe_int (nomark _)) (pss_cons (ps_set (i := 2) nd rfl (.inl rfl) (pe_op op_mod (pe_callTy call_int1 (by rfl) T.b_int boot_int (pa_cons (pe_ix ix_list (pv 0) pe_int (fun _ _ => rfl)) pa_nil)) (pv 1)))
      (pss_cons (ps_asg (pe_op op_fdiv (pe_ix ix_list (pv 0) pe_int (fun _ _ => rfl)) (pv 1)) (pg_sub (pv 0) pe_int set_list))
      (pss_one (ps_ret (pv 2))))) pss_nil)
      (pss_cons (ps_asg (pe_op op_add (pe_ix ix_list (pv 0) pe_int (fun _ _ => rfl)) pe_int) (pg_sub (pv 0) pe_int set_list))
      (pss_cons (ps_set (i := 3) nd rfl (.inl rfl) (pe_op op_mod (pe_callTy call_int1 (by rfl) T.b_int boot_int (pa_cons (pe_op op_mul (pe_op op_add (pe_ix ix_list (pv 0) pe_int (fun _ _ => rfl)) pe_int) (pe_op op_add (pe_op op_mul pe_int (pe_ix ix_list (pv 0) pe_int (fun _ _ => rfl))) pe_int)) pa_nil)) pe_int))
      (pss_cons (ps_set (i := 3) nd rfl (.inl rfl) (pe_op op_mod (pe_callTy call_int1 (by rfl) T.b_int boot_int (pa_cons (pe_op op_mul (pv 3) (pe_op op_add (pe_op op_fdiv (pv 3) pe_int) pe_int)) pa_nil)) pe_int))
      (pss_cons (ps_set (i := 3) nd rfl (.inl rfl) (pe_op op_mod (pe_callTy call_int1 (by rfl) T.b_int boot_int (pa_cons (pe_op op_mul (pv 3) (pe_op op_add (pe_op op_fdiv (pv 3) pe_int) pe_int)) pa_nil)) pe_int))
      (pss_one (ps_ret (pe_op op_mod (pe_callTy call_int1 (by rfl) T.b_int boot_int (pa_cons (pe_op op_fdiv (pv 3) pe_int) pa_nil)) (pv 1))))))))), ?_⟩
  have hsq : SqL K H a [.int g, .int sd, .int n] := .of hp
  refine ⟨_, rfl, _, _, _, _, rfl, rfl, hsq, at0, _, _, rfl, rfl, _, rfl, ?_⟩
  by_cases c : (0 : Int) < g
  · rw [decide_eq_true c]
    refine iteT ?_
    refine ⟨_, rfl, _, _, _, _, rfl, rfl, hsq, at0, .inl ⟨_, rfl, _, rfl, _, _, rfl, rfl, (by show (0 : Int) < m; omega), ?_⟩⟩
    refine ⟨_, rfl, _, _, _, _, rfl, rfl, hsq, at0, _, rfl, _, _, rfl, rfl, ⟨(by show (0 : Int) < m; omega), (by show m < 1073741824; omega)⟩, ?_⟩
    refine ⟨_, rfl, a, _, _, 0, rfl, rfl, hp, rfl, ?_⟩
    refine ⟨_, rfl, q _ _ But.upd ⟨g / m, sd, n, upd_same, Int.ediv_nonneg (by omega) (by omega), hs, hn⟩ ⟨Int.emod_nonneg _ (by omega), Int.emod_lt_of_pos _ (by omega)⟩⟩
  · rw [decide_eq_false c]
    refine iteF ?_
    refine ⟨_, rfl, _, _, _, _, rfl, rfl, hsq, at2, _, _, rfl, rfl, _, rfl, a, _, _, 2, rfl, rfl, hp, rfl, ?_⟩
    have hp2 : upd H a (.lst (([.int g, .int sd, .int n] : List V).set 2 (.int (n + 1)))) a = some (.lst [.int g, .int sd, .int (n + 1)]) := upd_same
    have b2 : But a H (upd H a (.lst (([.int g, .int sd, .int n] : List V).set 2 (.int (n + 1))))) := But.upd
    have hsq2 : SqL K _ a [.int g, .int sd, .int (n + 1)] := .of hp2
    have md : ∀ (u : Int), (fun (_ j : Int) => 0 < j) u m := fun u => by show (0 : Int) < m; omega
    refine ⟨_, rfl, _, _, _, _, rfl, rfl, hsq2, at1, _, _, rfl, rfl, _, rfl, _, _, _, _, rfl, rfl, hsq2, at2, _, _, rfl, rfl, .inl (by decide), _, _, rfl, rfl, _, _, rfl, rfl, .inl ?_, .inl ⟨_, rfl, _, _, rfl, rfl, (by show (0 : Int) < 2147483647; decide), ?_⟩⟩
    · show -(2 ^ 64) < sd + 1 ∧ sd + 1 < 2 ^ 64
      omega
    have mb : ∀ u : Int, -(2 ^ 64) < u % 2147483647 ∧ u % 2147483647 < 2 ^ 64 := fun u => by
      have h0 := Int.emod_nonneg u (show (2147483647 : Int) ≠ 0 by decide)
      have h1 := Int.emod_lt_of_pos u (show (0 : Int) < 2147483647 by decide)
      omega
    refine ⟨_, rfl, _, rfl, _, _, rfl, rfl, ⟨(by show (0 : Int) < 1009; decide), (by show (1009 : Int) < 1073741824; decide)⟩, _, _, rfl, rfl, _, _, rfl, rfl, .inl (by constructor <;> omega), .inl ⟨_, rfl, _, _, rfl, rfl, (by show (0 : Int) < 2147483647; decide), ?_⟩⟩
    refine ⟨_, rfl, _, rfl, _, _, rfl, rfl, ⟨(by show (0 : Int) < 2003; decide), (by show (2003 : Int) < 1073741824; decide)⟩, _, _, rfl, rfl, _, _, rfl, rfl, .inl (by constructor <;> omega), .inl ⟨_, rfl, _, _, rfl, rfl, (by show (0 : Int) < 2147483399; decide), ?_⟩⟩
    refine ⟨_, rfl, _, _, rfl, rfl, ⟨(by show (0 : Int) < 16; decide), (by show (16 : Int) < 1073741824; decide)⟩, .inl ⟨_, rfl, _, rfl, _, _, rfl, rfl, (by show (0 : Int) < m; omega), ?_⟩⟩
    exact q _ _ b2 ⟨g, sd, n + 1, hp2, hg, hs, by omega⟩ ⟨Int.emod_nonneg _ (by omega), Int.emod_lt_of_pos _ (by omega)⟩
end

end M

set_option Elab.async false
set_option linter.all false
set_option maxRecDepth 100000
set_option maxHeartbeats 2000000
namespace M
open PySem PySem.Spec PyProof.Rows L2

theorem let5 {i : Int} (h : 0 ≤ i ∧ i < 5) : ∃ c, atI ("abcdx" : Str).cps.toList i = some c ∧ (⟨#[c]⟩ : Str) ∈ regs5 := by
  have : i = 0 ∨ i = 1 ∨ i = 2 ∨ i = 3 ∨ i = 4 := by omega
  rcases this with rfl | rfl | rfl | rfl | rfl
  · exact ⟨97, by decide +kernel, by decide +kernel⟩
  · exact ⟨98, by decide +kernel, by decide +kernel⟩
  · exact ⟨99, by decide +kernel, by decide +kernel⟩
  · exact ⟨100, by decide +kernel, by decide +kernel⟩
  · exact ⟨120, by decide +kernel, by decide +kernel⟩
theorem let4 {i : Int} (h : 0 ≤ i ∧ i < 4) : ∃ c, atI ("abcd" : Str).cps.toList i = some c ∧ (⟨#[c]⟩ : Str) ∈ regs4 := by
  have : i = 0 ∨ i = 1 ∨ i = 2 ∨ i = 3 := by omega
  rcases this with rfl | rfl | rfl | rfl
  · exact ⟨97, by decide +kernel, by decide +kernel⟩
  · exact ⟨98, by decide +kernel, by decide +kernel⟩
  · exact ⟨99, by decide +kernel, by decide +kernel⟩
  · exact ⟨100, by decide +kernel, by decide +kernel⟩
theorem sgn5 {i : Int} (h : 0 ≤ i ∧ i < 5) : ∃ c, atI ("+-*=<" : Str).cps.toList i = some c ∧ (⟨#[c]⟩ : Str) ∈ signs := by
  have : i = 0 ∨ i = 1 ∨ i = 2 ∨ i = 3 ∨ i = 4 := by omega
  rcases this with rfl | rfl | rfl | rfl | rfl
  · exact ⟨43, by decide +kernel, by decide +kernel⟩
  · exact ⟨45, by decide +kernel, by decide +kernel⟩
  · exact ⟨42, by decide +kernel, by decide +kernel⟩
  · exact ⟨61, by decide +kernel, by decide +kernel⟩
  · exact ⟨60, by decide +kernel, by decide +kernel⟩
theorem PoolAt.ch {H : Hp} {a : Addr} (h : PoolAt H a) : Ch H a := by
  obtain ⟨_, _, _, h, _⟩ := h
  exact .lst h
theorem PoolAt.same {H H' : Hp} {a : Addr} (s : Same H H') (h : PoolAt H a) : PoolAt H' a := by
  obtain ⟨_, _, _, h, r⟩ := h
  exact ⟨_, _, _, s _ _ h, r⟩
theorem PoolAt.at {H : Hp} {a : Addr} (h : PoolAt H a) : ∃ l, H a = some (.lst l) := by
  obtain ⟨_, _, _, h, _⟩ := h
  exact ⟨_, h⟩
section
variable {P : Program} {w : World} {K : PySem.W.Frag} {mg : Str → Option Value} {base : Heap}
def spLE (K : PySem.W.Frag) (n : Nat) : Sp := fun vs H Q _ => ∃ (a : Addr) (k : Nat), vs = [.ref a, .int (k : Int)] ∧ PoolAt H a ∧ k < n ∧ ∀ (v : V) (e : Exp) (H' : Hp), But a H H' → PoolAt H' a → e.ok → e.dep ≤ k → Dp K H' v e.d → Q v H'
theorem ca_l_e : ∀ (n : Nat) (T : Txt w K mg), Ca P w K mg base (n + 2) "_law_e" (spLE K n)
  | 0, T => by
    refine ca_of (N := ["_law_pool_here", "_law_depth", "_law_kind", "_law_sign", "_law_left"]) (ps := ["_law_pool_here", "_law_depth"]) T.f_l_e T.g_law_e ⟨rfl, rfl, rfl, by decide +kernel, rfl, by decide +kernel, by decide +kernel⟩ (fun _ _ _ _ _ _ us hl => match us, hl with | [_, _], _ => rfl)
      (fun vs H Q E h => by obtain ⟨a, k, rfl, hp, hk, q⟩ := h; rfl) (fun cdv A outer s H vs Q E hr h => ?_)
    have nd : (["_law_pool_here", "_law_depth", "_law_kind", "_law_sign", "_law_left"] : List Str).Nodup := by decide +kernel
    obtain ⟨a, k, rfl, hp, hk, q⟩ := h
    omega
  | n + 1, T => by
    refine ca_of (N := ["_law_pool_here", "_law_depth", "_law_kind", "_law_sign", "_law_left"]) (ps := ["_law_pool_here", "_law_depth"]) T.f_l_e T.g_law_e ⟨rfl, rfl, rfl, by decide +kernel, rfl, by decide +kernel, by decide +kernel⟩ (fun _ _ _ _ _ _ us hl => match us, hl with | [_, _], _ => rfl)
      (fun vs H Q E h => by obtain ⟨a, k, rfl, hp, hk, q⟩ := h; rfl) (fun cdv A outer s H vs Q E hr h => ?_)
    have nd : (["_law_pool_here", "_law_depth", "_law_kind", "_law_sign", "_law_left"] : List Str).Nodup := by decide +kernel
    obtain ⟨a, k, rfl, hp, hk, q⟩ := h
    refine ⟨_, (pss_cons (ps_set (i := 2) nd rfl (.inl rfl) (pe_ca (ca_l_draw T) hr (pa_cons (pv 0) (pa_cons pe_int pa_nil)) (by omega)))
      (pss_cons (ps_if (PW.pt (pw_or (pt_cmpR op_eq (pv 2) pe_int (nomark _)) (pw_or1 (PW.pt (pw_and (pt_cmpR op_eq (pv 2) pe_int (nomark _)) (pw_and1 (pt_cmpR op_eq (pv 1) pe_int (nomark _)))))))) (pss_one (ps_ret (pe_ca (ca_l_draw T) hr (pa_cons (pv 0) (pa_cons pe_int pa_nil)) (by omega)))) pss_nil)
      (pss_cons (ps_if (pt_cmpR op_lt (pv 2) pe_int (nomark _)) (pss_one (ps_ret (pe_ix ix_str pe_str (pe_ca (ca_l_draw T) hr (pa_cons (pv 0) (pa_cons pe_int pa_nil)) (by omega)) (fun _ _ => rfl)))) pss_nil)
      (pss_cons (ps_set (i := 3) nd rfl (.inl rfl) (pe_ix ix_str pe_str (pe_ca (ca_l_draw T) hr (pa_cons (pv 0) (pa_cons pe_int pa_nil)) (by omega)) (fun _ _ => rfl)))
      (pss_cons (ps_set (i := 4) nd rfl (.inl rfl) (pe_ca (ca_l_e n T) hr (pa_cons (pv 0) (pa_cons (pe_op op_sub (pv 1) pe_int) pa_nil)) (by omega)))
      (pss_one (ps_ret (pe_tup (pa_cons (pv 3) (pa_cons (pv 4) (pa_cons (pe_ca (ca_l_e n T) hr (pa_cons (pv 0) (pa_cons (pe_op op_sub (pv 1) pe_int) pa_nil)) (by omega)) pa_nil))))))))))), ?_⟩
    refine ⟨_, rfl, a, 4, rfl, hp, by omega, fun i H1 b1 p1 hi => ?_⟩
    have num : ∀ (j : Int) (H2 : Hp), But a H1 H2 → PoolAt H2 a → (0 ≤ j ∧ j < 10) → Q (.int j) H2 := fun j H2 b2 p2 hj => q _ (.num j) H2 (b1.trans b2) p2 (by show 0 ≤ j ∧ j ≤ 9; omega) (Nat.zero_le _) (.int j)
    refine ⟨_, rfl, rfl, _, rfl, ?_⟩
    by_cases c0 : i = 0
    · rw [decide_eq_true (show V.int i = V.int 0 from congrArg V.int c0)]
      exact iteT ⟨_, rfl, a, 10, rfl, p1, by omega, num⟩
    · rw [decide_eq_false (show ¬ V.int i = V.int 0 from fun z => c0 (V.int.inj z))]
      refine iteF ⟨_, rfl, rfl, _, rfl, ?_⟩
      by_cases c3 : i = 3
      · rw [decide_eq_true (show V.int i = V.int 3 from congrArg V.int c3)]
        refine iteT ⟨_, rfl, rfl, _, rfl, ?_⟩
        by_cases ck : k = 0
        · rw [decide_eq_true (show V.int (k : Int) = V.int 0 from by rw [ck]; rfl)]
          exact iteT ⟨_, rfl, a, 10, rfl, p1, by omega, num⟩
        · rw [decide_eq_false (show ¬ V.int (k : Int) = V.int 0 from fun z => ck (by have := V.int.inj z; omega))]
          refine iteF ⟨_, rfl, _, _, rfl, rfl, _, rfl, ?_⟩
          rw [decide_eq_false (show ¬ i < 3 by omega)]
          refine iteF ⟨_, rfl, a, 5, rfl, p1, by omega, fun j H2 b2 p2 hj => ?_⟩
          obtain ⟨cd, hcd, hsg⟩ := sgn5 hj
          refine ⟨_, j, cd, rfl, rfl, (by decide +kernel), hcd, ?_⟩
          have ek : ((k : Nat) : Int) - 1 = ((k - 1 : Nat) : Int) := by omega
          refine ⟨_, rfl, _, rfl, _, _, rfl, rfl, a, k - 1, by rw [← ek]; rfl, p2, by omega, fun v1 e1 H3 b3 p3 o1 d1 y1 => ?_⟩
          refine ⟨_, rfl, _, rfl, _, rfl, _, rfl, _, _, rfl, rfl, a, k - 1, by rw [← ek]; rfl, p3, by omega, fun v2 e2 H4 b4 p4 o2 d2 y2 => ?_⟩
          refine ⟨(by show 3 ≤ sizeLine; decide), fun t nt => ?_⟩
          have s5 : Same H4 (upd H4 t (.tup [.str ⟨#[cd]⟩, v1, v2])) := same_new nt
          refine q _ (.op ⟨#[cd]⟩ e1 e2) _ ((((b1.trans b2).trans b3).trans b4).trans (same_but s5)) (p4.same s5) ⟨hsg, o1, o2⟩ ?_ (.tup (.of upd_same) (.cons (.str _) (.cons (dp_same s5 (dp_but p3.ch b4 y1 e1.noL)) (.cons (dp_same s5 y2) .nil))))
          show Nat.max e1.dep e2.dep + 1 ≤ k
          have := Nat.max_le.mpr ⟨d1, d2⟩
          have : Nat.max e1.dep e2.dep ≤ k - 1 := this
          omega
      · rw [decide_eq_false (show ¬ V.int i = V.int 3 from fun z => c3 (V.int.inj z))]
        refine iteF ⟨_, rfl, _, _, rfl, rfl, _, rfl, ?_⟩
        rw [decide_eq_true (show i < 3 by omega)]
        refine iteT ⟨_, rfl, a, 5, rfl, p1, by omega, fun j H2 b2 p2 hj => ?_⟩
        obtain ⟨cd, hcd, hsg⟩ := let5 hj
        exact ⟨_, j, cd, rfl, rfl, (by decide +kernel), hcd, q _ (.reg ⟨#[cd]⟩) H2 (b1.trans b2) p2 hsg (Nat.zero_le _) (.str _)⟩
/-! ### what the law works out itself -/
def spLV (K : PySem.W.Frag) (n : Nat) : Sp := fun vs H Q _ => ∃ (v : V) (e : Exp) (h : Addr) (r : Str → Int), vs = [v, .ref h] ∧ Dp K H v e.d ∧ e.ok ∧ e.dep < n ∧ H h = some (.dK (heldK r)) ∧ RegOk r ∧ Q (.int (e.ev r)) H
theorem ca_l_value : ∀ (n : Nat) (T : Txt w K mg), Ca P w K mg base (n + 1) "_law_value" (spLV K n)
  | 0, T => by
    refine ca_of (N := ["_law_e_here", "_law_held", "_law_one", "_law_two"]) (ps := ["_law_e_here", "_law_held"]) T.f_l_value T.g_law_value ⟨rfl, rfl, rfl, by decide +kernel, rfl, by decide +kernel, by decide +kernel⟩ (fun _ _ _ _ _ _ us hl => match us, hl with | [_, _], _ => rfl)
      (fun vs H Q E h => by obtain ⟨v, e, h, r, rfl, hv, ok, hd, hh, ro, q⟩ := h; rfl) (fun cdv A outer s H vs Q E hr h => ?_)
    have nd : (["_law_e_here", "_law_held", "_law_one", "_law_two"] : List Str).Nodup := by decide +kernel
    obtain ⟨v, e, h, r, rfl, hv, ok, hd, hh, ro, q⟩ := h
    omega
  | n + 1, T => by
    refine ca_of (N := ["_law_e_here", "_law_held", "_law_one", "_law_two"]) (ps := ["_law_e_here", "_law_held"]) T.f_l_value T.g_law_value ⟨rfl, rfl, rfl, by decide +kernel, rfl, by decide +kernel, by decide +kernel⟩ (fun _ _ _ _ _ _ us hl => match us, hl with | [_, _], _ => rfl)
      (fun vs H Q E h => by obtain ⟨v, e, h, r, rfl, hv, ok, hd, hh, ro, q⟩ := h; rfl) (fun cdv A outer s H vs Q E hr h => ?_)
    have nd : (["_law_e_here", "_law_held", "_law_one", "_law_two"] : List Str).Nodup := by decide +kernel
    obtain ⟨v, e, h, r, rfl, hv, ok, hd, hh, ro, q⟩ := h
    refine ⟨_, (pss_cons (ps_if (pt_val (pe_is .tuple T.b_isinstance (pv 0) T.b_tuple boot_tuple)) (pss_cons (ps_set (i := 2) nd rfl (.inl rfl) (pe_ca (ca_l_value n T) hr (pa_cons (pe_ix ix_tup (pv 0) pe_int (fun _ _ => rfl)) (pa_cons (pv 1) pa_nil)) (by omega)))
      (pss_cons (ps_set (i := 3) nd rfl (.inl rfl) (pe_ca (ca_l_value n T) hr (pa_cons (pe_ix ix_tup (pv 0) pe_int (fun _ _ => rfl)) (pa_cons (pv 1) pa_nil)) (by omega)))
      (pss_cons (ps_if (pt_cmpR op_eq (pe_ix ix_tup (pv 0) pe_int (fun _ _ => rfl)) pe_str (nomark _)) (pss_one (ps_ret (pe_callTy call_int1 (by rfl) T.b_int boot_int (pa_cons (pe_cmpR op_eq (pv 2) (pv 3) (nomark _)) pa_nil)))) pss_nil)
      (pss_cons (ps_if (pt_cmpR op_eq (pe_ix ix_tup (pv 0) pe_int (fun _ _ => rfl)) pe_str (nomark _)) (pss_one (ps_ret (pe_callTy call_int1 (by rfl) T.b_int boot_int (pa_cons (pe_cmpR op_lt (pv 2) (pv 3) (nomark _)) pa_nil)))) pss_nil)
      (pss_cons (ps_if (pt_cmpR op_eq (pe_ix ix_tup (pv 0) pe_int (fun _ _ => rfl)) pe_str (nomark _)) (pss_one (ps_ret (pe_op op_mod (pe_callTy call_int1 (by rfl) T.b_int boot_int (pa_cons (pe_op op_mul (pv 2) (pv 3)) pa_nil)) pe_int))) pss_nil)
      (pss_one (ps_ret (pe_op op_mod (pe_callTy call_int1 (by rfl) T.b_int boot_int (pa_cons (pe_op op_add (pv 2) (pe_op op_mul (pv 3) (pe_op op_sub pe_int (pe_op op_mul pe_int (pe_callTy call_int1 (by rfl) T.b_int boot_int (pa_cons (pe_cmpR op_eq (pe_ix ix_tup (pv 0) pe_int (fun _ _ => rfl)) pe_str (nomark _)) pa_nil)))))) pa_nil)) pe_int)))))))) pss_nil)
      (pss_cons (ps_if (pt_val (pe_is .str T.b_isinstance (pv 0) T.b_str boot_str)) (pss_one (ps_ret (pe_dget (hu_of hr) (pv 1) (pv 0) (fun _ _ => rfl)))) pss_nil)
      (pss_one (ps_ret (pv 0))))), ?_⟩
    cases e with
    | num m =>
      cases dp_int hv
      refine ⟨_, rfl, _, _, rfl, .int m, _, rfl, iteF ?_⟩
      exact ⟨_, rfl, _, _, rfl, .int m, _, rfl, iteF ⟨_, rfl, q⟩⟩
    | reg s =>
      cases dp_str hv
      refine ⟨_, rfl, _, _, rfl, .str s, _, rfl, iteF ?_⟩
      refine ⟨_, rfl, _, _, rfl, .str s, _, rfl, iteT ?_⟩
      refine ⟨_, rfl, _, rfl, h, _, rfl, ?_, q⟩
      show DGet H h (.str s) (some (V.int (r s)))
      rw [← held_get ok]
      exact DGet.k (k := Sum.inr s) hh
    | op s a b =>
      obtain ⟨t, x1, x2, x3, rfl, ht, e1, e2, e3⟩ := dp3 hv
      cases dp_str e1
      obtain ⟨o1, o2, o3⟩ := ok
      have hd : Nat.max a.dep b.dep + 1 < n + 1 := hd
      have da : a.dep < n := Nat.lt_of_le_of_lt (Nat.le_max_left _ _) (Nat.lt_of_succ_lt_succ hd)
      have db : b.dep < n := Nat.lt_of_le_of_lt (Nat.le_max_right _ _) (Nat.lt_of_succ_lt_succ hd)
      refine ⟨_, rfl, _, _, rfl, .tuple ht, _, rfl, iteT ?_⟩
      refine ⟨_, rfl, _, _, _, _, rfl, rfl, ht, at1, _, rfl, x2, a, h, r, rfl, e2, o2, da, hh, ro, ?_⟩
      refine ⟨_, rfl, _, _, _, _, rfl, rfl, ht, at2, _, rfl, x3, b, h, r, rfl, e3, o3, db, hh, ro, ?_⟩
      have ba := ev_bd ro o2
      have bb := ev_bd ro o3
      have q : Q (.int (opv s (a.ev r) (b.ev r))) H := q
      generalize a.ev r = l at q ba
      generalize b.ev r = m at q bb
      have n1 : ¬ (("-" : Str) = "+") := by decide +kernel
      have n2 : ¬ (("*" : Str) = "+") := by decide +kernel
      have n3 : ¬ (("*" : Str) = "-") := by decide +kernel
      have n4 : ¬ (("=" : Str) = "+") := by decide +kernel
      have n5 : ¬ (("=" : Str) = "-") := by decide +kernel
      have n6 : ¬ (("=" : Str) = "*") := by decide +kernel
      have n7 : ¬ (("<" : Str) = "+") := by decide +kernel
      have n8 : ¬ (("<" : Str) = "-") := by decide +kernel
      have n9 : ¬ (("<" : Str) = "*") := by decide +kernel
      have n10 : ¬ (("<" : Str) = "=") := by decide +kernel
      have last : ∀ s : Str, (s = "+" ∨ s = "-") → (l + m * (1 - 2 * (if decide (V.str s = V.str "-") = true then (1 : Int) else 0))) % 10 = opv s l m := by
        intro s hs
        unfold opv
        rcases hs with rfl | rfl
        · rw [if_neg (by rw [decide_eq_true_eq]; exact fun z => n1 (V.str.inj z).symm), if_pos rfl]
          congr 1
          omega
        · rw [if_pos (by rw [decide_eq_true_eq]), if_neg n1, if_pos rfl]
          congr 1
          omega
      unfold signs at o1
      simp only [List.mem_cons, List.not_mem_nil, or_false] at o1
      rcases o1 with rfl | rfl | rfl | rfl | rfl
      · refine ⟨_, rfl, _, _, _, _, rfl, rfl, ht, at0, rfl, _, rfl, iteF ⟨_, rfl, _, _, _, _, rfl, rfl, ht, at0, rfl, _, rfl, iteF ⟨_, rfl, _, _, _, _, rfl, rfl, ht, at0, rfl, _, rfl, iteF ?_⟩⟩⟩
        rw [← last _ (.inl rfl)] at q
        exact ⟨_, rfl, _, rfl, _, rfl, _, _, _, _, rfl, rfl, ht, at0, rfl, .inr ⟨_, rfl, _, _, rfl, rfl, .inl (by decide), _, _, rfl, rfl, _, _, rfl, rfl, .inl (by omega), _, _, rfl, rfl, .inl ⟨_, rfl, _, _, rfl, rfl, (by show (0 : Int) < 10; decide), q⟩⟩⟩
      · refine ⟨_, rfl, _, _, _, _, rfl, rfl, ht, at0, rfl, _, rfl, iteF ⟨_, rfl, _, _, _, _, rfl, rfl, ht, at0, rfl, _, rfl, iteF ⟨_, rfl, _, _, _, _, rfl, rfl, ht, at0, rfl, _, rfl, iteF ?_⟩⟩⟩
        rw [← last _ (.inr rfl)] at q
        exact ⟨_, rfl, _, rfl, _, rfl, _, _, _, _, rfl, rfl, ht, at0, rfl, .inr ⟨_, rfl, _, _, rfl, rfl, .inl (by decide), _, _, rfl, rfl, _, _, rfl, rfl, .inl (by omega), _, _, rfl, rfl, .inl ⟨_, rfl, _, _, rfl, rfl, (by show (0 : Int) < 10; decide), q⟩⟩⟩
      · refine ⟨_, rfl, _, _, _, _, rfl, rfl, ht, at0, rfl, _, rfl, iteF ⟨_, rfl, _, _, _, _, rfl, rfl, ht, at0, rfl, _, rfl, iteF ⟨_, rfl, _, _, _, _, rfl, rfl, ht, at0, rfl, _, rfl, iteT ?_⟩⟩⟩
        unfold opv at q
        rw [if_neg n2, if_neg n3, if_pos rfl] at q
        exact ⟨_, rfl, _, rfl, _, _, rfl, rfl, .inl (by omega), .inl ⟨_, rfl, _, _, rfl, rfl, (by show (0 : Int) < 10; decide), q⟩⟩
      · refine ⟨_, rfl, _, _, _, _, rfl, rfl, ht, at0, rfl, _, rfl, iteT ?_⟩
        unfold opv at q
        rw [if_neg n4, if_neg n5, if_neg n6, if_pos rfl] at q
        refine ⟨_, rfl, _, rfl, rfl, .inr ⟨_, rfl, ?_⟩⟩
        by_cases c : l = m
        · rw [if_pos c] at q
          rw [decide_eq_true (show V.int l = V.int m from congrArg V.int c)]
          exact q
        · rw [if_neg c] at q
          rw [decide_eq_false (show ¬ V.int l = V.int m from fun z => c (V.int.inj z))]
          exact q
      · refine ⟨_, rfl, _, _, _, _, rfl, rfl, ht, at0, rfl, _, rfl, iteF ⟨_, rfl, _, _, _, _, rfl, rfl, ht, at0, rfl, _, rfl, iteT ?_⟩⟩
        unfold opv at q
        rw [if_neg n7, if_neg n8, if_neg n9, if_neg n10] at q
        refine ⟨_, rfl, _, rfl, _, _, rfl, rfl, .inr ⟨_, rfl, ?_⟩⟩
        by_cases c : l < m
        · rw [if_pos c] at q
          rw [decide_eq_true c]
          exact q
        · rw [if_neg c] at q
          rw [decide_eq_false c]
          exact q
end

end M

set_option Elab.async false
set_option linter.all false
set_option maxRecDepth 100000
set_option maxHeartbeats 2000000
namespace M
open PySem PySem.Spec PyProof.Rows L2

/-- the tuple (tuple, list) of types -/
abbrev two_ty : List V := [.ty "tuple", .ty "list"]
theorem of_ty {K : PySem.W.Frag} {H : Hp} {v : V} {k : Kd} (h : Of K H v k) (hk : k ≠ .obj) : TyX K H v (.type k.name) := by
  cases h with
  | non => exact .base .non
  | bl b => exact .base (.bl b)
  | int b => exact .base (.int b)
  | str b => exact .base (.str b)
  | list b => exact ty_sqL b
  | tuple b => exact ty_sqT b
  | dict b => exact b
  | obj b _ => exact absurd rfl hk
def rIs2 (K : PySem.W.Frag) : List V → Hp → VK → Prop := fun xs H Q => ∃ (v : V) (k : Kd) (tp : Addr), xs = [v, .ref tp] ∧ H tp = some (.tup two_ty) ∧ Of K H v k ∧ k ≠ .obj ∧ Q (.bl (k.is .tuple || k.is .list)) H
theorem call_is2 {X : Cx} : CallR X (.builtin "isinstance") (rIs2 X.K) := callR_imp call_isiT fun vs H Q ⟨v, k, tp, e, ht, h, hk, q⟩ => by
  subst e
  refine ⟨v, tp, two_ty, .type k.name, [.type "tuple", .type "list"], _, rfl, ht, .cons (.ty _) (.cons (.ty _) .nil), of_ty h hk, ?_, q⟩
  have h1 := kd_kit (K := X.K) k .tuple hk (by decide)
  have h2 := kd_kit (K := X.K) k .list hk (by decide)
  exact kitAny_cons h1 (fun e => kitAny_cons h2 (fun e2 => by rw [kitAny_nil, e, e2]; rfl) (fun e2 => by rw [e2, Bool.or_true])) (fun e => by rw [e, Bool.true_or])
theorem kdOf_obj (d : PyData) : kdOf d ≠ .obj := by
  cases d <;> simp [kdOf]
mutual
def dpt : PyData → Nat
  | .tuple ds => dpts ds + 1
  | .list ds => dpts ds + 1
  | _ => 0
def dpts : List PyData → Nat
  | [] => 0
  | d :: r => Nat.max (dpt d) (dpts r)
end
mutual
/-- no sequence in it is longer than this -/
def nar : PyData → Prop
  | .tuple ds => ds.length ≤ 100000 ∧ nars ds
  | .list ds => ds.length ≤ 100000 ∧ nars ds
  | _ => True
def nars : List PyData → Prop
  | [] => True
  | d :: r => nar d ∧ nars r
end
theorem nars_at : ∀ {ds : List PyData} {i : Nat} {d : PyData}, nars ds → ds[i]? = some d → nar d
  | [], i, d, _, h => by simp at h
  | e :: r, 0, d, n, h => by
    cases (Option.some.inj h)
    exact n.1
  | e :: r, i + 1, d, n, h => nars_at (ds := r) (i := i) n.2 h
theorem dpts_at : ∀ {ds : List PyData} {i : Nat} {d : PyData}, ds[i]? = some d → dpt d ≤ dpts ds
  | [], i, d, h => by simp at h
  | e :: r, 0, d, h => by
    cases (Option.some.inj h)
    exact Nat.le_max_left _ _
  | e :: r, i + 1, d, h => Nat.le_trans (dpts_at (ds := r) (i := i) h) (Nat.le_max_right _ _)
section
variable {P : Program} {w : World} {K : PySem.W.Frag} {mg : Str → Option Value} {base : Heap}
def spLSame (K : PySem.W.Frag) (n : Nat) : Sp := fun vs H Q _ => ∃ (x y : V) (d : PyData), vs = [x, y] ∧ Dp K H x d ∧ Dp K H y d ∧ dpt d < n ∧ nar d ∧ ∀ H', Same H H' → Q (.bl true) H'
theorem ca_l_same : ∀ (n : Nat) (T : Txt w K mg), Ca P w K mg base (n + 1) "_law_same" (spLSame K n)
  | 0, T => by
    refine ca_of (N := ["_law_one", "_law_two", "_law_k"]) (ps := ["_law_one", "_law_two"]) T.f_l_same T.g_law_same ⟨rfl, rfl, rfl, by decide +kernel, rfl, by decide +kernel, by decide +kernel⟩ (fun _ _ _ _ _ _ us hl => match us, hl with | [_, _], _ => rfl)
      (fun vs H Q E h => by obtain ⟨x, y, d, rfl, hx, hy, hd, hnr, q⟩ := h; rfl) (fun cdv A outer s H vs Q E hr h => ?_)
    have nd : (["_law_one", "_law_two", "_law_k"] : List Str).Nodup := by decide +kernel
    obtain ⟨x, y, d, rfl, hx, hy, hd, hnr, q⟩ := h
    omega
  | n + 1, T => by
    refine ca_of (N := ["_law_one", "_law_two", "_law_k"]) (ps := ["_law_one", "_law_two"]) T.f_l_same T.g_law_same ⟨rfl, rfl, rfl, by decide +kernel, rfl, by decide +kernel, by decide +kernel⟩ (fun _ _ _ _ _ _ us hl => match us, hl with | [_, _], _ => rfl)
      (fun vs H Q E h => by obtain ⟨x, y, d, rfl, hx, hy, hd, hnr, q⟩ := h; rfl) (fun cdv A outer s H vs Q E hr h => ?_)
    have nd : (["_law_one", "_law_two", "_law_k"] : List Str).Nodup := by decide +kernel
    obtain ⟨x, y, d, rfl, hx, hy, hd, hnr, q⟩ := h
    refine ⟨_, (pss_cons (ps_if (pt_val (pe_callB call_is2 (by rfl) T.b_isinstance boot_isinstance (pa_cons (pv 0) (pa_cons (pe_tup (pa_cons (pe_ty T.b_tuple boot_tuple) (pa_cons (pe_ty T.b_list boot_list) pa_nil))) pa_nil)))) (pss_cons (ps_if (PW.pt (pw_or (pt_not (pt_val (pe_callB call_is2 (by rfl) T.b_isinstance boot_isinstance (pa_cons (pv 1) (pa_cons (pe_tup (pa_cons (pe_ty T.b_tuple boot_tuple) (pa_cons (pe_ty T.b_list boot_list) pa_nil))) pa_nil))))) (pw_or1 (pt_cmpR op_ne (pe_is .list T.b_isinstance (pv 0) T.b_list boot_list) (pe_is .list T.b_isinstance (pv 1) T.b_list boot_list) (nomark _))))) (pss_one (ps_ret pe_bl)) pss_nil)
      (pss_cons (ps_if (pt_cmpR op_ne (pe_callB call_len_seq (by rfl) T.b_len PySem.boot_len (pa_cons (pv 0) pa_nil)) (pe_callB call_len_seq (by rfl) T.b_len PySem.boot_len (pa_cons (pv 1) pa_nil)) (nomark _)) (pss_one (ps_ret pe_bl)) pss_nil)
      (pss_cons (ps_for PassesOwn.never rfl (pi_range1 rfl T.b_range (pa_cons (pe_callB call_len_seq (by rfl) T.b_len PySem.boot_len (pa_cons (pv 0) pa_nil)) pa_nil)) (pg_name (i := 2) nd rfl (.inl rfl)) (pss_one (ps_if (pt_not (pt_val (pe_ca (ca_l_same n T) hr (pa_cons (pe_ix ix_seq (pv 0) (pv 2) (fun _ _ => rfl)) (pa_cons (pe_ix ix_seq (pv 1) (pv 2) (fun _ _ => rfl)) pa_nil)) (by omega)))) (pss_one (ps_ret pe_bl)) pss_nil)))
      (pss_one (ps_ret pe_bl))))) pss_nil)
      (pss_cons (ps_if (PW.pt (pw_or (pt_val (pe_is .bool T.b_isinstance (pv 0) T.b_bool boot_bool)) (pw_or1 (pt_val (pe_is .bool T.b_isinstance (pv 1) T.b_bool boot_bool))))) (pss_one (ps_ret (pe_and (pe_is .bool T.b_isinstance (pv 0) T.b_bool boot_bool) (pe_and (pe_is .bool T.b_isinstance (pv 1) T.b_bool boot_bool) (pe_one (pe_cmpR op_eq (pv 0) (pv 1) (nomark _))))))) pss_nil)
      (pss_cons (ps_if (pt_val (pe_is .int T.b_isinstance (pv 0) T.b_int boot_int)) (pss_one (ps_ret (pe_and (pe_is .int T.b_isinstance (pv 1) T.b_int boot_int) (pe_one (pe_cmpR op_eq (pv 0) (pv 1) (nomark _)))))) pss_nil)
      (pss_cons (ps_if (pt_val (pe_is .str T.b_isinstance (pv 0) T.b_str boot_str)) (pss_one (ps_ret (pe_and (pe_is .str T.b_isinstance (pv 1) T.b_str boot_str) (pe_one (pe_cmpR op_eq (pv 0) (pv 1) (nomark _)))))) pss_nil)
      (pss_one (ps_ret (pe_and (pe_cmp (pc_isN (pv 0)) rfl) (pe_one (pe_cmp (pc_isN (pv 1)) rfl))))))))), ?_⟩
    refine ⟨_, rfl, (by show 2 ≤ sizeLine; decide), fun tp ntp => ⟨_, kdOf d, tp, rfl, upd_same, dp_kd (dp_same (same_new ntp) hx), kdOf_obj d, _, rfl, ?_⟩⟩
    have s1 : Same H (upd H tp (.tup two_ty)) := same_new ntp
    have hx1 := dp_same s1 hx
    have hy1 := dp_same s1 hy
    have q1 : ∀ H', Same (upd H tp (.tup two_ty)) H' → Q (.bl true) H' := fun H' s => q H' (s1.trans s)
    generalize upd H tp (.tup [V.ty "tuple", V.ty "list"]) = H1 at hx1 hy1 q1 ⊢
    have kx := dp_kd hx1
    have ky := dp_kd hy1
    by_cases hseq : kdOf d = .list ∨ kdOf d = .tuple
    · have e1 : ((kdOf d).is .tuple || (kdOf d).is .list) = true := by rcases hseq with h | h <;> rw [h] <;> rfl
      obtain ⟨a, b, xs, ys, ds, rfl, rfl, sa, sb, dx, dy, hn, hl5, hns⟩ : ∃ (a b : Addr) (xs ys : List V) (ds : List PyData), x = .ref a ∧ y = .ref b ∧ (SqL K H1 a xs ∨ SqT K H1 a xs) ∧ (SqL K H1 b ys ∨ SqT K H1 b ys) ∧ DpAll K H1 xs ds ∧ DpAll K H1 ys ds ∧ dpts ds < n ∧ ds.length ≤ 100000 ∧ nars ds := by
        cases hx1 with
        | lst h1 h2 => cases hy1 with | lst h3 h4 => exact ⟨_, _, _, _, _, rfl, rfl, .inl h1, .inl h3, h2, h4, Nat.lt_of_succ_lt_succ hd, hnr⟩
        | tup h1 h2 => cases hy1 with | tup h3 h4 => exact ⟨_, _, _, _, _, rfl, rfl, .inr h1, .inr h3, h2, h4, Nat.lt_of_succ_lt_succ hd, hnr⟩
        | _ => rcases hseq with h | h <;> cases h
      have lxy : xs.length = ys.length := (dps_len dx).trans (dps_len dy).symm
      rw [e1]
      refine iteT ⟨_, rfl, (by show 2 ≤ sizeLine; decide), fun tp2 ntp2 => ⟨_, kdOf d, tp2, rfl, upd_same, dp_kd (dp_same (same_new ntp2) hy1), kdOf_obj d, _, rfl, ?_⟩⟩
      rw [e1]
      have s2 : Same H1 (upd H1 tp2 (.tup two_ty)) := same_new ntp2
      have kx2 := dp_kd (dp_same s2 hx1)
      have ky2 := dp_kd (dp_same s2 hy1)
      have sa2 := sa.imp s2.seq (same_t s2)
      have sb2 := sb.imp s2.seq (same_t s2)
      have dx2 := dps_same s2 dx
      have dy2 := dps_same s2 dy
      have q2 : ∀ H', Same (upd H1 tp2 (.tup two_ty)) H' → Q (.bl true) H' := fun H' s => q1 H' (s2.trans s)
      generalize upd H1 tp2 (.tup [V.ty "tuple", V.ty "list"]) = H2 at kx2 ky2 sa2 sb2 dx2 dy2 q2 ⊢
      refine iteF ⟨_, rfl, _, _, rfl, kx2, _, rfl, _, _, rfl, ky2, rfl, _, rfl, ?_⟩
      rw [decide_eq_true rfl]
      refine iteF ⟨_, rfl, _, _, rfl, sa2, _, rfl, _, _, rfl, sb2, rfl, _, rfl, ?_⟩
      rw [decide_eq_true (show V.int (xs.length : Nat) = V.int (ys.length : Nat) from by rw [lxy])]
      refine iteF ⟨_, rfl, _, _, rfl, sa2, _, rfl, ?_⟩
      have lx := dps_len dx
      refine ⟨by omega, by omega, for_it (n := xs.length) walk_range (fun i σ' H' => ∃ z, σ' = [some (.ref a), some (.ref b), z] ∧ Same H2 H') ⟨none, rfl, Same.refl _⟩ (fun _ _ _ _ _ => trivial) ?_ ?_⟩
      · rintro i z σ' H0 H' hi ⟨_, rfl, s3⟩ ⟨rfl, rfl⟩
        have hid : i < ds.length := by omega
        obtain ⟨u, hu, du⟩ := dps_at dx2 (List.getElem?_eq_getElem hid)
        obtain ⟨v, hv, dv⟩ := dps_at dy2 (List.getElem?_eq_getElem hid)
        have ei : (0 : Int) + (i : Nat) = ((i : Nat) : Int) := by omega
        have rx : ∀ G : VK, G u H' → rIx K (.ref a) (.int (0 + (i : Nat))) H' G := fun G g => sa2.elim (fun h => .inl ⟨a, xs, _, u, rfl, rfl, s3.seq h, by rw [ei]; exact atI_nat hu, g⟩) (fun h => .inr (.inl ⟨a, xs, _, u, rfl, rfl, same_t s3 h, by rw [ei]; exact atI_nat hu, g⟩))
        have ry : ∀ G : VK, G v H' → rIx K (.ref b) (.int (0 + (i : Nat))) H' G := fun G g => sb2.elim (fun h => .inl ⟨b, ys, _, v, rfl, rfl, s3.seq h, by rw [ei]; exact atI_nat hv, g⟩) (fun h => .inr (.inl ⟨b, ys, _, v, rfl, rfl, same_t s3 h, by rw [ei]; exact atI_nat hv, g⟩))
        refine ⟨_, rfl, _, rfl, rx _ ⟨_, rfl, _, rfl, ry _ ?_⟩⟩
        refine ⟨u, v, ds[i], rfl, dp_same s3 du, dp_same s3 dv, Nat.lt_of_le_of_lt (dpts_at (List.getElem?_eq_getElem hid)) hn, nars_at hns (List.getElem?_eq_getElem hid), fun H4 s4 => ⟨_, rfl, iteF ⟨_, rfl, s3.trans s4⟩⟩⟩
      · rintro σ' H' ⟨_, rfl, s3⟩
        exact q2 _ s3
    · have e1 : ((kdOf d).is .tuple || (kdOf d).is .list) = false := by
        cases e : kdOf d <;> simp_all [Kd.is]
      rw [e1]
      refine iteF ?_
      cases hx1 with
      | non =>
        cases hy1
        exact ⟨_, rfl, _, _, rfl, kx, _, rfl, iteF ⟨_, rfl, _, _, rfl, ky, _, rfl, iteF ⟨_, rfl, _, _, rfl, kx, _, rfl, iteF ⟨_, rfl, _, _, rfl, kx, _, rfl, iteF ⟨_, rfl, _, rfl, iteT ⟨_, rfl, q1 _ (Same.refl _)⟩⟩⟩⟩⟩⟩
      | bl b =>
        cases hy1
        refine ⟨_, rfl, _, _, rfl, kx, _, rfl, iteT ⟨_, rfl, _, _, rfl, kx, _, rfl, iteT ⟨_, rfl, _, _, rfl, ky, _, rfl, iteT ⟨_, rfl, _, rfl, rfl, ?_⟩⟩⟩⟩
        rw [decide_eq_true rfl]
        exact q1 _ (Same.refl _)
      | int i =>
        cases hy1
        refine ⟨_, rfl, _, _, rfl, kx, _, rfl, iteF ⟨_, rfl, _, _, rfl, ky, _, rfl, iteF ⟨_, rfl, _, _, rfl, kx, _, rfl, iteT ⟨_, rfl, _, _, rfl, ky, _, rfl, iteT ⟨_, rfl, _, rfl, rfl, ?_⟩⟩⟩⟩⟩
        rw [decide_eq_true rfl]
        exact q1 _ (Same.refl _)
      | str i =>
        cases hy1
        refine ⟨_, rfl, _, _, rfl, kx, _, rfl, iteF ⟨_, rfl, _, _, rfl, ky, _, rfl, iteF ⟨_, rfl, _, _, rfl, kx, _, rfl, iteF ⟨_, rfl, _, _, rfl, kx, _, rfl, iteT ⟨_, rfl, _, _, rfl, ky, _, rfl, iteT ⟨_, rfl, _, rfl, rfl, ?_⟩⟩⟩⟩⟩⟩
        rw [decide_eq_true rfl]
        exact q1 _ (Same.refl _)
      | lst h1 h2 => exact absurd (.inl rfl) hseq
      | tup h1 h2 => exact absurd (.inr rfl) hseq
end

end M

set_option Elab.async false
set_option linter.all false
set_option maxRecDepth 100000
set_option maxHeartbeats 2000000
namespace M
open PySem PySem.Spec PyProof.Rows L2

/-! ### rows without "if", "times", "coin" -/
def flat : Row → Prop
  | .iff .. => False
  | .times .. => False
  | .coin .. => False
  | _ => True
theorem putRows_flat : ∀ (rs : List Row) (c : List FR), (∀ r ∈ rs, flat r) → putRows rs c = c ++ rs.map FR.row
  | [], c, _ => by simp [putRows]
  | r :: rs, c, h => by
    have e : putRow r c = c ++ [.row r] := by
      have := h r List.mem_cons_self
      cases r <;> first | rfl | exact this.elim
    show putRows rs (putRow r c) = _
    rw [e, putRows_flat rs _ fun x hx => h x (List.mem_cons_of_mem _ hx), List.append_assoc]
    rfl
theorem code_flat {rs : List Row} (h : ∀ r ∈ rs, flat r) : codeOf rs = rs.map FR.row ++ [.row (.ans (.num 0))] := by
  unfold codeOf
  rw [putRows_flat rs [] h]
  rfl
/-- the state behind one row -/
def one (r : Row) (st : Mst) : Mst := stp1 (.row r) { st with place := st.place + 1 }
def goR : List Row → Mst → Mst × List PyData
  | [], st => (one (.ans (.num 0)) st, [])
  | r :: rs, st => if (one r st).res.isSome = true then (one r st, tell (.row r) (one r st)) else ((goR rs (one r st)).1, tell (.row r) (one r st) ++ (goR rs (one r st)).2)
theorem one_place {r : Row} {st : Mst} (h : flat r) : (one r st).place = st.place + 1 := by
  cases r with
  | swap r k e g =>
    show (if st.cells.getD k.toNat 0 = e.ev st.regs then ({ st with place := st.place + 1, cells := st.cells.set k.toNat (g.ev st.regs % st.sides.getD k.toNat 0), regs := rset st.regs r 1 } : Mst) else { st with place := st.place + 1, regs := rset st.regs r 0 }).place = _
    split <;> rfl
  | iff e a b => exact h.elim
  | times e a => exact h.elim
  | coin r => exact h.elim
  | _ => rfl
theorem fin_flat : ∀ (rs : List Row) (pre : List FR) (st : Mst), (∀ r ∈ rs, flat r) → st.code = pre ++ (rs.map FR.row ++ [.row (.ans (.num 0))]) → st.place = pre.length → st.res = none → ∃ n, n ≤ rs.length + 1 ∧ FinT n st (goR rs st).1 (goR rs st).2 ∧ ∃ v, (goR rs st).1.res = some v
  | [], pre, st, _, hc, hp, hr => by
    refine ⟨1, Nat.le_refl _, ?_, 0, rfl⟩
    have hf : st.code[st.place.toNat]? = some (.row (.ans (.num 0))) := by
      rw [hc, hp]
      simp
    exact FinT.step hr (by omega) hf trivial (.stop rfl)
  | r :: rs, pre, st, hfl, hc, hp, hr => by
    have fr := hfl r List.mem_cons_self
    have hf : st.code[st.place.toNat]? = some (.row r) := by
      rw [hc, hp]
      simp
    have can : Can (.row r) { st with place := st.place + 1 } := by
      cases r <;> first | trivial | exact fr.elim
    by_cases c : (one r st).res.isSome = true
    · have e : goR (r :: rs) st = (one r st, tell (.row r) (one r st)) := if_pos c
      rw [e]
      obtain ⟨v, hv⟩ := Option.isSome_iff_exists.mp c
      refine ⟨1, by omega, ?_, v, hv⟩
      have := FinT.step hr (by omega) hf can (.stop hv)
      rw [List.append_nil] at this
      exact this
    · have e : goR (r :: rs) st = ((goR rs (one r st)).1, tell (.row r) (one r st) ++ (goR rs (one r st)).2) := if_neg c
      rw [e]
      have hn : (one r st).res = none := by
        cases q : (one r st).res with
        | none => rfl
        | some v => rw [q] at c; exact absurd rfl c
      obtain ⟨n, h1, h2, h3⟩ := fin_flat rs (pre ++ [.row r]) (one r st) (fun x hx => hfl x (List.mem_cons_of_mem _ hx)) (by rw [show (one r st).code = st.code from stp1_code _ _, hc]; simp) (by rw [one_place fr, hp]; simp) hn
      exact ⟨n + 1, by simp; omega, FinT.step hr (by omega) hf can h2, h3⟩
/-- rows "keep" and "answer" alone -/
def ka : Row → Prop
  | .keep .. => True
  | .ans .. => True
  | _ => False
def dueK : List Row → (Str → Int) → Int
  | [], _ => 0
  | .keep s e :: rs, r => dueK rs (rset r s (e.ev r))
  | .ans e :: _, r => e.ev r
  | _ :: rs, r => dueK rs r
theorem ka_flat {r : Row} (h : ka r) : flat r := by
  cases r <;> first | trivial | exact h.elim
theorem goR_ka : ∀ (rs : List Row) (st : Mst), (∀ r ∈ rs, ka r) → st.res = none → (goR rs st).1.res = some (dueK rs st.regs) ∧ (goR rs st).1.cells = st.cells ∧ (goR rs st).2 = []
  | [], st, _, _ => ⟨rfl, rfl, rfl⟩
  | .keep s e :: rs, st, h, hr => by
    have c : ¬ (one (.keep s e) st).res.isSome = true := by
      show ¬ st.res.isSome = true
      rw [hr]
      decide
    have e1 : goR (.keep s e :: rs) st = ((goR rs (one (.keep s e) st)).1, tell (.row (.keep s e)) (one (.keep s e) st) ++ (goR rs (one (.keep s e) st)).2) := if_neg c
    obtain ⟨h1, h2, h3⟩ := goR_ka rs (one (.keep s e) st) (fun x hx => h x (List.mem_cons_of_mem _ hx)) hr
    rw [e1]
    exact ⟨h1, h2, h3⟩
  | .ans e :: rs, st, h, hr => by
    have e1 : goR (.ans e :: rs) st = (one (.ans e) st, tell (.row (.ans e)) (one (.ans e) st)) := if_pos rfl
    rw [e1]
    exact ⟨rfl, rfl, rfl⟩
  | .read .. :: _, _, h, _ => (h _ List.mem_cons_self).elim
  | .set .. :: _, _, h, _ => (h _ List.mem_cons_self).elim
  | .swap .. :: _, _, h, _ => (h _ List.mem_cons_self).elim
  | .coin .. :: _, _, h, _ => (h _ List.mem_cons_self).elim
  | .iff .. :: _, _, h, _ => (h _ List.mem_cons_self).elim
  | .times .. :: _, _, h, _ => (h _ List.mem_cons_self).elim

end M

set_option Elab.async false
set_option linter.all false
set_option maxRecDepth 100000
set_option maxHeartbeats 2000000
namespace M
open PySem PySem.Spec PyProof.Rows L2

theorem rowsOk_of {c : Int} : ∀ {rs : List Row}, (∀ r ∈ rs, r.ok c 1 0) → rowsOk c 1 0 rs
  | [], _ => trivial
  | r :: rs, h => ⟨by decide, h r List.mem_cons_self, rowsOk_of fun x hx => h x (List.mem_cons_of_mem _ hx)⟩
theorem flat_cl : ∀ {rs : List Row}, (∀ r ∈ rs, flat r) → rowsCl rs = rs.length
  | [], _ => rfl
  | r :: rs, h => by
    have e : r.cl = 1 := by
      have := h r List.mem_cons_self
      cases r <;> first | rfl | exact this.elim
    show r.cl + rowsCl rs = _
    rw [e, flat_cl fun x hx => h x (List.mem_cons_of_mem _ hx), List.length_cons]
    omega
theorem flat_cc : ∀ {rs : List Row}, (∀ r ∈ rs, flat r) → rowsCc rs = 0
  | [], _ => rfl
  | r :: rs, h => by
    have e : r.cc = 0 := by
      have := h r List.mem_cons_self
      cases r <;> first | rfl | exact this.elim
    show r.cc + rowsCc rs = _
    rw [e, flat_cc fun x hx => h x (List.mem_cons_of_mem _ hx)]
theorem PoolAt.but {H H' : Hp} {a D : Addr} (ne : a ≠ D) (b : But D H H') (h : PoolAt H a) : PoolAt H' a := by
  obtain ⟨_, _, _, h, r⟩ := h
  exact ⟨_, _, _, b _ _ ne h, r⟩
theorem rows_noL' {rs : List Row} : ∀ d ∈ rs.map Row.d, NoL d := fun d hd => by
  obtain ⟨r, _, rfl⟩ := List.mem_map.mp hd
  exact r.noL
/-- a vault of one deed without "if", "times", "coin" -/
def oneV (cells : List (Int × Int)) (nm : Str) (rs : List Row) : Vlt := ⟨cells, [(nm, 9, rs)]⟩
theorem oneV_good {cells : List (Int × Int)} {nm : Str} {rs : List Row} (c0 : 1 ≤ cells.length) (c6 : cells.length ≤ 6) (hc : ∀ c ∈ cells, CellOk c) (hn : NameOk nm) (fl : ∀ r ∈ rs, flat r) (ok : ∀ r ∈ rs, r.ok cells.length 1 0) (hl : rs.length ≤ 2000) : VGood (oneV cells nm rs) :=
  ⟨c0, c6, hc, Nat.le_refl 1, by show 1 ≤ 8; decide, fun d hd => by
    rw [List.mem_singleton.mp hd]
    exact ⟨hn, ⟨by show (1 : Int) ≤ 9; decide, by show (9 : Int) ≤ 9; decide⟩, rowsOk_of ok, by rw [flat_cc fl]; decide, by rw [flat_cl fl]; exact hl⟩, List.nodup_cons.mpr ⟨by simp, List.nodup_nil⟩⟩

end M

set_option Elab.async false
set_option linter.all false
set_option maxRecDepth 100000
set_option maxHeartbeats 2000000
namespace M
open PySem PySem.Spec PyProof.Rows L2

section
variable {P : Program} {w : World} {K : PySem.W.Frag} {mg : Str → Option Value} {base : Heap}
theorem ca_l_tree : ∀ (n : Nat) (T : Txt w K mg), Ca P w K mg base (n + 4) "_law_tree" (spLE K n)
  | 0, T => by
    refine ca_of (N := ["_law_pool_here", "_law_deep", "_law_sign", "_law_left"]) (ps := ["_law_pool_here", "_law_deep"]) T.f_l_tree T.g_law_tree ⟨rfl, rfl, rfl, by decide +kernel, rfl, by decide +kernel, by decide +kernel⟩ (fun _ _ _ _ _ _ us hl => match us, hl with | [_, _], _ => rfl)
      (fun vs H Q E h => by obtain ⟨a, k, rfl, hp, hk, q⟩ := h; rfl) (fun cdv A outer s H vs Q E hr h => ?_)
    have nd : (["_law_pool_here", "_law_deep", "_law_sign", "_law_left"] : List Str).Nodup := by decide +kernel
    obtain ⟨a, k, rfl, hp, hk, q⟩ := h
    omega
  | n + 1, T => by
    refine ca_of (N := ["_law_pool_here", "_law_deep", "_law_sign", "_law_left"]) (ps := ["_law_pool_here", "_law_deep"]) T.f_l_tree T.g_law_tree ⟨rfl, rfl, rfl, by decide +kernel, rfl, by decide +kernel, by decide +kernel⟩ (fun _ _ _ _ _ _ us hl => match us, hl with | [_, _], _ => rfl)
      (fun vs H Q E h => by obtain ⟨a, k, rfl, hp, hk, q⟩ := h; rfl) (fun cdv A outer s H vs Q E hr h => ?_)
    have nd : (["_law_pool_here", "_law_deep", "_law_sign", "_law_left"] : List Str).Nodup := by decide +kernel
    obtain ⟨a, k, rfl, hp, hk, q⟩ := h
    refine ⟨_, (pss_cons (ps_if (PW.pt (pw_or (pt_cmpR op_eq (pv 1) pe_int (nomark _)) (pw_or1 (pt_cmpR op_ge (pe_ca (ca_l_draw T) hr (pa_cons (pv 0) (pa_cons pe_int pa_nil)) (by omega)) (pe_op op_add pe_int (pv 1)) (nomark _))))) (pss_one (ps_ret (pe_ca (ca_l_e 1 T) hr (pa_cons (pv 0) (pa_cons pe_int pa_nil)) (by omega)))) pss_nil)
      (pss_cons (ps_set (i := 2) nd rfl (.inl rfl) (pe_ix ix_str pe_str (pe_ca (ca_l_draw T) hr (pa_cons (pv 0) (pa_cons pe_int pa_nil)) (by omega)) (fun _ _ => rfl)))
      (pss_cons (ps_set (i := 3) nd rfl (.inl rfl) (pe_ca (ca_l_tree n T) hr (pa_cons (pv 0) (pa_cons (pe_op op_sub (pv 1) pe_int) pa_nil)) (by omega)))
      (pss_one (ps_ret (pe_tup (pa_cons (pv 2) (pa_cons (pv 3) (pa_cons (pe_ca (ca_l_tree n T) hr (pa_cons (pv 0) (pa_cons (pe_op op_sub (pv 1) pe_int) pa_nil)) (by omega)) pa_nil))))))))), ?_⟩
    have leaf : ∀ (H1 : Hp), But a H H1 → PoolAt H1 a → ∀ (v : V) (e : Exp) (H2 : Hp), But a H1 H2 → PoolAt H2 a → e.ok → e.dep ≤ 0 → Dp K H2 v e.d → Q v H2 := fun H1 b1 p1 v e H2 b2 p2 ok d y => q v e H2 (b1.trans b2) p2 ok (by omega) y
    refine ⟨_, rfl, rfl, _, rfl, ?_⟩
    by_cases ck : k = 0
    · rw [decide_eq_true (show V.int (k : Int) = V.int 0 from by rw [ck]; rfl)]
      exact iteT ⟨_, rfl, a, 0, rfl, hp, by omega, leaf H (fun _ _ _ e => e) hp⟩
    · rw [decide_eq_false (show ¬ V.int (k : Int) = V.int 0 from fun z => ck (by have := V.int.inj z; omega))]
      refine iteF ⟨_, rfl, a, 8, rfl, hp, by omega, fun i H1 b1 p1 hi => ?_⟩
      refine ⟨_, rfl, _, _, rfl, rfl, _, _, rfl, rfl, _, rfl, ?_⟩
      by_cases c : (4 : Int) + (k : Int) ≤ i
      · rw [decide_eq_true c]
        exact iteT ⟨_, rfl, a, 0, rfl, p1, by omega, leaf H1 b1 p1⟩
      · rw [decide_eq_false c]
        refine iteF ⟨_, rfl, a, 5, rfl, p1, by omega, fun j H2 b2 p2 hj => ?_⟩
        obtain ⟨cd, hcd, hsg⟩ := sgn5 hj
        refine ⟨_, j, cd, rfl, rfl, (by decide +kernel), hcd, ?_⟩
        have ek : ((k : Nat) : Int) - 1 = ((k - 1 : Nat) : Int) := by omega
        refine ⟨_, rfl, _, rfl, _, _, rfl, rfl, a, k - 1, by rw [← ek]; rfl, p2, by omega, fun v1 e1 H3 b3 p3 o1 d1 y1 => ?_⟩
        refine ⟨_, rfl, _, rfl, _, rfl, _, rfl, _, _, rfl, rfl, a, k - 1, by rw [← ek]; rfl, p3, by omega, fun v2 e2 H4 b4 p4 o2 d2 y2 => ?_⟩
        refine ⟨(by show 3 ≤ sizeLine; decide), fun t nt => ?_⟩
        have s5 : Same H4 (upd H4 t (.tup [.str ⟨#[cd]⟩, v1, v2])) := same_new nt
        refine q _ (.op ⟨#[cd]⟩ e1 e2) _ ((((b1.trans b2).trans b3).trans b4).trans (same_but s5)) (p4.same s5) ⟨hsg, o1, o2⟩ ?_ (.tup (.of upd_same) (.cons (.str _) (.cons (dp_same s5 (dp_but p3.ch b4 y1 e1.noL)) (.cons (dp_same s5 y2) .nil))))
        show Nat.max e1.dep e2.dep + 1 ≤ k
        have := Nat.max_le.mpr ⟨d1, d2⟩
        have : Nat.max e1.dep e2.dep ≤ k - 1 := this
        omega
def spChain (K : PySem.W.Frag) : Sp := fun vs H Q _ => ∃ (a : Addr), vs = [.ref a] ∧ PoolAt H a ∧ ∀ (v : V) (e : Exp) (H' : Hp), But a H H' → PoolAt H' a → e.good → Dp K H' v e.d → Q v H'
theorem ca_l_chain (T : Txt w K mg) : Ca P w K mg base 4 "_law_chain" (spChain K) := by
  refine ca_of (N := ["_law_pool_here", "_law_e_here", "_law_turn", "_law_sign"]) (ps := ["_law_pool_here"]) T.f_l_chain T.g_law_chain ⟨rfl, rfl, rfl, by decide +kernel, rfl, by decide +kernel, by decide +kernel⟩ (fun _ _ _ _ _ _ us hl => match us, hl with | [_], _ => rfl)
    (fun vs H Q E h => by obtain ⟨a, rfl, hp, q⟩ := h; rfl) (fun cdv A outer s H vs Q E hr h => ?_)
  have nd : (["_law_pool_here", "_law_e_here", "_law_turn", "_law_sign"] : List Str).Nodup := by decide +kernel
  obtain ⟨a, rfl, hp, q⟩ := h
  refine ⟨_, (pss_cons (ps_set (i := 1) nd rfl (.inl rfl) (pe_ca (ca_l_e 1 T) hr (pa_cons (pv 0) (pa_cons pe_int pa_nil))))
      (pss_cons (ps_for PassesOwn.never rfl (pi_range1 rfl T.b_range (pa_cons (pe_ca (ca_l_draw T) hr (pa_cons (pv 0) (pa_cons pe_int pa_nil))) pa_nil)) (pg_name (i := 2) nd rfl (.inl rfl)) (pss_cons (ps_set (i := 3) nd rfl (.inl rfl) (pe_ix ix_str pe_str (pe_ca (ca_l_draw T) hr (pa_cons (pv 0) (pa_cons pe_int pa_nil))) (fun _ _ => rfl)))
      (pss_one (ps_if (pt_cmpR op_eq (pe_ca (ca_l_draw T) hr (pa_cons (pv 0) (pa_cons pe_int pa_nil))) pe_int (nomark _)) (pss_one (ps_set (i := 1) nd rfl (.inl rfl) (pe_tup (pa_cons (pv 3) (pa_cons (pv 1) (pa_cons (pe_ca (ca_l_e 1 T) hr (pa_cons (pv 0) (pa_cons pe_int pa_nil))) pa_nil)))))) (pss_one (ps_set (i := 1) nd rfl (.inl rfl) (pe_tup (pa_cons (pv 3) (pa_cons (pe_ca (ca_l_e 1 T) hr (pa_cons (pv 0) (pa_cons pe_int pa_nil))) (pa_cons (pv 1) pa_nil))))))))))
      (pss_one (ps_ret (pv 1))))), ?_⟩
  refine ⟨_, rfl, a, 0, rfl, hp, by omega, fun v0 e0 H1 b1 p1 o0 d0 y0 => ?_⟩
  refine ⟨_, rfl, a, 7, rfl, p1, by omega, fun m H2 b2 p2 hm => ?_⟩
  refine ⟨m, rfl, by omega, by omega, for_it (n := m.toNat) walk_range (fun i σ' H' => ∃ (v : V) (e : Exp) (x y : Option V), σ' = [some (.ref a), some v, x, y] ∧ But a H H' ∧ PoolAt H' a ∧ e.ok ∧ e.dep ≤ i ∧ Dp K H' v e.d) ⟨v0, e0, none, none, rfl, b1.trans b2, p2, o0, d0, dp_but p1.ch b2 y0 e0.noL⟩ (fun _ _ _ _ _ => trivial) ?_ ?_⟩
  · rintro i z σ' H0 H' hi ⟨v, e, _, _, rfl, bt, pt, ok, dp, dv⟩ ⟨rfl, rfl⟩
    refine ⟨_, rfl, a, 5, rfl, pt, by omega, fun j H3 b3 p3 hj => ?_⟩
    obtain ⟨cd, hcd, hsg⟩ := sgn5 hj
    refine ⟨_, j, cd, rfl, rfl, (by decide +kernel), hcd, ?_⟩
    refine ⟨_, rfl, a, 2, rfl, p3, by omega, fun u H4 b4 p4 hu => ?_⟩
    have dv4 := dp_but p3.ch b4 (dp_but pt.ch b3 dv e.noL) e.noL
    refine ⟨rfl, _, rfl, ?_⟩
    by_cases c : u = 0
    · rw [decide_eq_true (show V.int u = V.int 0 from congrArg V.int c)]
      refine iteT ⟨_, rfl, _, rfl, _, rfl, a, 0, rfl, p4, by omega, fun v2 e2 H5 b5 p5 o2 d2 y2 => ?_⟩
      refine ⟨(by show 3 ≤ sizeLine; decide), fun t nt => ?_⟩
      have s6 : Same H5 (upd H5 t (.tup [.str ⟨#[cd]⟩, v, v2])) := same_new nt
      refine ⟨_, .op ⟨#[cd]⟩ e e2, _, _, rfl, (((bt.trans b3).trans b4).trans b5).trans (same_but s6), p5.same s6, ⟨hsg, ok, o2⟩, ?_, .tup (.of upd_same) (.cons (.str _) (.cons (dp_same s6 (dp_but p4.ch b5 dv4 e.noL)) (.cons (dp_same s6 y2) .nil)))⟩
      have := Nat.max_le.mpr ⟨dp, Nat.le_trans d2 (Nat.zero_le i)⟩
      show Nat.max e.dep e2.dep + 1 ≤ i + 1
      exact Nat.succ_le_succ this
    · rw [decide_eq_false (show ¬ V.int u = V.int 0 from fun z => c (V.int.inj z))]
      refine iteF ⟨_, rfl, _, rfl, a, 0, rfl, p4, by omega, fun v2 e2 H5 b5 p5 o2 d2 y2 => ?_⟩
      refine ⟨_, rfl, (by show 3 ≤ sizeLine; decide), fun t nt => ?_⟩
      have s6 : Same H5 (upd H5 t (.tup [.str ⟨#[cd]⟩, v2, v])) := same_new nt
      refine ⟨_, .op ⟨#[cd]⟩ e2 e, _, _, rfl, (((bt.trans b3).trans b4).trans b5).trans (same_but s6), p5.same s6, ⟨hsg, o2, ok⟩, ?_, .tup (.of upd_same) (.cons (.str _) (.cons (dp_same s6 y2) (.cons (dp_same s6 (dp_but p4.ch b5 dv4 e.noL)) .nil)))⟩
      have := Nat.max_le.mpr ⟨Nat.le_trans d2 (Nat.zero_le i), dp⟩
      show Nat.max e2.dep e.dep + 1 ≤ i + 1
      exact Nat.succ_le_succ this
  · rintro σ' H' ⟨v, e, _, _, rfl, bt, pt, ok, dp, dv⟩
    exact ⟨_, rfl, q v e H' bt pt ⟨ok, by omega⟩ dv⟩
def spDue (K : PySem.W.Frag) : Sp := fun vs H Q _ => ∃ (a : Addr) (xs : List V) (rs : List Row) (x c : Int), vs = [.ref a, .int x] ∧ SqL K H a xs ∧ DpAll K H xs (rs.map Row.d) ∧ (∀ r ∈ rs, ka r ∧ r.ok c 1 0) ∧ (0 ≤ x ∧ x ≤ 9) ∧ ∀ H', Same H H' → Q (.int (dueK rs (r0 x))) H'
theorem ca_l_due (T : Txt w K mg) : Ca P w K mg base 9 "_law_due" (spDue K) := by
  refine ca_of (N := ["_law_rows", "_law_argument", "_law_held", "_law_row"]) (ps := ["_law_rows", "_law_argument"]) T.f_l_due T.g_law_due ⟨rfl, rfl, rfl, by decide +kernel, rfl, by decide +kernel, by decide +kernel⟩ (fun _ _ _ _ _ _ us hl => match us, hl with | [_, _], _ => rfl)
    (fun vs H Q E h => by obtain ⟨a, xs, rs, x, c, rfl, ha, hxs, ok, hx, q⟩ := h; rfl) (fun cdv A outer s H vs Q E hr h => ?_)
  have nd : (["_law_rows", "_law_argument", "_law_held", "_law_row"] : List Str).Nodup := by decide +kernel
  obtain ⟨a, xs, rs, x, c, rfl, ha, hxs, ok, hx, q⟩ := h
  refine ⟨_, (pss_cons (ps_set (i := 2) nd rfl (.inl rfl) (pe_disp (pps_cons pe_str pe_int (pps_cons pe_str pe_int (pps_cons pe_str pe_int (pps_cons pe_str pe_int (pps_cons pe_str (pv 1) pps_nil))))) rfl rfl (List.cons_ne_nil _ _) (by decide)))
      (pss_cons (ps_for PassesOwn.never rfl (pi_list (pv 0)) (pg_name (i := 3) nd rfl (.inl rfl)) (pss_cons (ps_if (pt_cmpR op_eq (pe_ix ix_tup (pv 3) pe_int (fun _ _ => rfl)) pe_str (nomark _)) (pss_one (ps_ret (pe_ca (ca_l_value 7 T) hr (pa_cons (pe_ix ix_tup (pv 3) pe_int (fun _ _ => rfl)) (pa_cons (pv 2) pa_nil))))) pss_nil)
      (pss_one (ps_dput (hu_of hr) (pv 2) (pe_ix ix_tup (pv 3) pe_int (fun _ _ => rfl)) (pe_ca (ca_l_value 7 T) hr (pa_cons (pe_ix ix_tup (pv 3) pe_int (fun _ _ => rfl)) (pa_cons (pv 2) pa_nil))) rfl))))
      (pss_one (ps_ret pe_int)))), ?_⟩
  refine fun D nD => ⟨_, rfl, upd_same, [kS "a" (.int 0), kS "b" (.int 0), kS "c" (.int 0), kS "d" (.int 0), kS "x" (.int x)], rfl, (by show 5 ≤ 15; decide), ?_⟩
  rw [upd_upd, held_disp]
  have s1 : Same H (upd H D (.dK (heldK (r0 x)))) := same_new nD
  have hD1 : upd H D (.dK (heldK (r0 x))) D = some (.dK (heldK (r0 x))) := upd_same
  generalize upd H D (.dK (heldK (r0 x))) = H1 at s1 hD1
  have lx : xs.length = rs.length := by rw [dps_len hxs, List.length_map]
  have rn : ∀ d ∈ rs.map Row.d, NoL d := fun d hd => by
    obtain ⟨r, _, rfl⟩ := List.mem_map.mp hd
    exact r.noL
  have ro : RegOk (r0 x) := fun s _ => by
    unfold r0
    split
    · exact hx
    · decide
  have fin : ∀ H', But D H1 H' → Same H H' := fun H' b u o e => b u o (ne_of_none e nD) (s1 _ _ e)
  refine ⟨_, rfl, a, rfl, ⟨_, s1.seq ha⟩, for_list (xs := xs) (fun i σ' H' => ∃ (r : Str → Int) (z : Option V), σ' = [some (.ref a), some (.int x), some (.ref D), z] ∧ But D H1 H' ∧ H' D = some (.dK (heldK r)) ∧ RegOk r ∧ dueK (rs.drop i) r = dueK rs (r0 x)) ⟨r0 x, none, rfl, fun _ _ _ e => e, hD1, ro, rfl⟩ (fun i σ' H' _ ⟨_, _, _, b, _⟩ => sqL_but (.dK hD1) b (s1.seq ha)) ?_ ?_⟩
  · rintro i y σ' H' hy ⟨r, _, rfl, b, hD, rok, ed⟩
    obtain ⟨d, hd, dy⟩ := dps_get hxs hy
    obtain ⟨row, hrow, rfl⟩ := get_mapA hd
    obtain ⟨hka, hok⟩ := ok row (List.mem_of_getElem? hrow)
    have hi := (List.getElem?_eq_some_iff.mp hrow).1
    have edrop : rs.drop i = row :: rs.drop (i + 1) := by
      rw [List.drop_eq_getElem_cons hi]
      congr 1
      exact (List.getElem?_eq_some_iff.mp hrow).2
    have dy' := dp_but (.dK hD1) b (dp_same s1 dy) row.noL
    rw [edrop] at ed
    cases row with
    | keep s e =>
      obtain ⟨t, x1, x2, x3, rfl, ht, e1, e2, e3⟩ := dp3 dy'
      cases dp_str e1
      cases dp_str e2
      obtain ⟨k1, k2, k3⟩ := hok
      refine ⟨_, rfl, _, _, _, _, rfl, rfl, ht, at0, rfl, _, rfl, iteF ?_⟩
      refine ⟨_, rfl, _, _, _, _, rfl, rfl, ht, at2, _, rfl, x3, e, D, r, rfl, e3, k2, by omega, hD, rok, ?_⟩
      refine ⟨_, rfl, _, rfl, _, _, _, _, rfl, rfl, ht, at1, D, _, rfl, DPut.k (k := Sum.inr s) hD (by show 5 < sizeLine; decide), ?_⟩
      rw [held_put (in45 k1)]
      exact ⟨_, _, rfl, b.trans But.upd, upd_same, rset_ok rok (ev_bd rok k2), ed⟩
    | ans e =>
      obtain ⟨t, x1, x2, rfl, ht, e1, e2⟩ := dp2 dy'
      cases dp_str e1
      refine ⟨_, rfl, _, _, _, _, rfl, rfl, ht, at0, rfl, _, rfl, iteT ?_⟩
      refine ⟨_, rfl, _, _, _, _, rfl, rfl, ht, at1, _, rfl, x2, e, D, r, rfl, e2, hok.1, by have := hok.2; omega, hD, rok, ?_⟩
      have ed : e.ev r = dueK rs (r0 x) := ed
      rw [ed]
      exact q H' (fin H' b)
    | _ => exact hka.elim
  · rintro σ' H' ⟨r, _, rfl, b, hD, rok, ed⟩
    rw [lx, List.drop_length] at ed
    have ed : (0 : Int) = dueK rs (r0 x) := ed
    rw [← ed] at q
    exact q H' (fin H' b)
end

end M

set_option Elab.async false
set_option linter.all false
set_option maxRecDepth 100000
set_option maxHeartbeats 2000000
namespace M
open PySem PySem.Spec PyProof.Rows L2

section
variable {P : Program} {w : World} {K : PySem.W.Frag} {mg : Str → Option Value} {base : Heap}
def spLaw (K : PySem.W.Frag) : Sp := fun vs H Q _ => ∃ (a : Addr) (ns : List Int), vs = [.ref a] ∧ SqL K H a (ns.map V.int) ∧ ns.length ≤ 63 ∧ ∀ H', Q (.bl true) H'
theorem ok_law {fd : FuncData} (T : Txt w K mg) (F : FunD K "law" "law" (defArgs s_law) (defBody s_law) (defScope s_law) [] [] (He.fAd K ("law", none)) fd) : FnOk P w K mg base CX0 56 (He.fAd K ("law", none)) fd ["_law_script"] (spLaw K) := by
  refine fn_d (N := ["_law_script", "_law_pool_here", "_law_many", "_law_wide", "_law_first", "_law_k", "_law_rows", "_law_last", "_law_vault", "_law_argument", "_law_due_here"]) (ps := ["_law_script"]) F ⟨rfl, rfl, rfl, by decide +kernel, rfl, by decide +kernel, by decide +kernel⟩
    (fun vs H Q E h => by obtain ⟨a, ns, rfl, ha, hl, q⟩ := h; rfl) (fun cdv A outer s H vs Q E hr h => ?_)
  have nd : (["_law_script", "_law_pool_here", "_law_many", "_law_wide", "_law_first", "_law_k", "_law_rows", "_law_last", "_law_vault", "_law_argument", "_law_due_here"] : List Str).Nodup := by decide +kernel
  obtain ⟨a, ns, rfl, ha, hl, q⟩ := h
  refine ⟨_, (pss_cons (ps_set (i := 1) nd rfl (.inr rfl) (pe_ca (ca_l_pool T) hr (pa_cons (pv 0) (pa_cons pe_int pa_nil))))
      (pss_cons (ps_set (i := 2) nd rfl (.inl rfl) (pe_ca (ca_l_draw T) hr (pa_cons (pv 1) (pa_cons pe_int pa_nil))))
      (pss_cons (ps_set (i := 3) nd rfl (.inl rfl) (pe_ca (ca_l_draw T) hr (pa_cons (pv 1) (pa_cons pe_int pa_nil))))
      (pss_cons (ps_set (i := 4) nd rfl (.inl rfl) (pe_ca (ca_l_draw T) hr (pa_cons (pv 1) (pa_cons pe_int pa_nil))))
      (pss_cons (ps_setLc (i := 6) (own := [("_law_k", 5)]) (tt := tYes) rfl nd rfl rfl (by rfl) (pi_range1 rfl T.b_range (pa_cons (pv 2) pa_nil)) (blkOk_by (N := ["_law_script", "_law_pool_here", "_law_many", "_law_wide", "_law_first", "_law_k", "_law_rows", "_law_last", "_law_vault", "_law_argument", "_law_due_here"]) (sc := defScope s_law) (by decide +kernel)) (fun _ _ _ _ _ => pg_name (i := 5) nd rfl (.inl rfl)) (fun _ _ _ _ _ => pts_nil) (fun _ _ _ _ _ => pe_tup (pa_cons pe_str (pa_cons (pe_ix ix_str pe_str (pe_ca (ca_l_draw T) hr (pa_cons (pv 1) (pa_cons pe_int pa_nil))) (fun _ _ => rfl)) (pa_cons (pe_ca (ca_l_chain T) hr (pa_cons (pv 1) pa_nil)) pa_nil)))))
      (pss_cons (ps_set (i := 7) nd rfl (.inl rfl) (pe_ca (ca_l_pool T) hr (pa_cons (pv 0) (pa_cons pe_int pa_nil))))
      (C8.pss_cut (ps_if (pt_cmpR op_eq (pv 3) pe_int (nomark _)) (pss_one (ps_expr (pe_bm PySem.F.plainAttrs_list PySem.F.slot_list_append PySem.F.type_list_append mt_append (pv 6) (pa_cons (pe_tup (pa_cons pe_str (pa_cons (pe_ca (ca_l_tree 7 T) hr (pa_cons (pv 7) (pa_cons pe_int pa_nil))) pa_nil))) pa_nil)))) (pss_one (ps_expr (pe_bm PySem.F.plainAttrs_list PySem.F.slot_list_append PySem.F.type_list_append mt_append (pv 6) (pa_cons (pe_tup (pa_cons pe_str (pa_cons (pe_ca (ca_l_chain T) hr (pa_cons (pv 7) pa_nil)) pa_nil))) pa_nil)))))
      (pss_cons (ps_set (i := 8) nd rfl (.inl rfl) (pe_ma (ma_Vault T) hr (pa_cons (pe_lst (pa_cons (pe_tup (pa_cons pe_int (pa_cons (pv 4) pa_nil))) pa_nil)) (pa_cons (pe_lst (pa_cons (pe_tup (pa_cons pe_str (pa_cons pe_int (pa_cons (pe_tupleOf (by rfl) T.b_tuple (pv 6)) pa_nil)))) pa_nil)) pa_nil))))
      (pss_cons (ps_for PassesOwn.never rfl (pi_range2 rfl T.b_range (pa_cons pe_int (pa_cons (pe_callB (call_max2 rfl) (by rfl) T.b_max boot_max (pa_cons pe_int (pa_cons (pe_callB (call_min2 rfl) (by rfl) T.b_min boot_min (pa_cons (pe_callB call_len_seq (by rfl) T.b_len PySem.boot_len (pa_cons (pv 0) pa_nil)) (pa_cons pe_int pa_nil))) pa_nil))) pa_nil))) (pg_name (i := 5) nd rfl (.inl rfl)) (pss_cons (ps_set (i := 9) nd rfl (.inl rfl) (pe_ca (ca_l_draw T) hr (pa_cons (pe_ca (ca_l_pool T) hr (pa_cons (pv 0) (pa_cons (pv 5) pa_nil))) (pa_cons pe_int pa_nil))))
      (pss_cons (ps_set (i := 10) nd rfl (.inl rfl) (pe_ca (ca_l_due T) hr (pa_cons (pv 6) (pa_cons (pv 9) pa_nil))))
      (pss_cons (ps_if (pt_not (pt_val (pe_ca (ca_l_same 3 T) hr (pa_cons (pe_tup (pa_cons (pv 10) (pa_cons (pe_tup (pa_cons (pv 4) pa_nil)) pa_nil))) (pa_cons (pe_ca (ca_called T) hr (pa_cons (pv 8) (pa_cons (pe_tup (pa_cons (pv 4) pa_nil)) (pa_cons (pe_tup (pa_cons pe_str (pa_cons (pv 9) pa_nil))) (pa_cons (pe_lst pa_nil) pa_nil))))) pa_nil))))) (pss_one (ps_ret pe_bl)) pss_nil)
      (pss_one (ps_if (pt_not (pt_val (pe_ca (ca_l_same 2 T) hr (pa_cons (pe_lst pa_nil) (pa_cons (pe_ca (ca_steps T) hr (pa_cons (pv 8) (pa_cons (pe_tup (pa_cons (pv 4) pa_nil)) (pa_cons (pe_tup (pa_cons pe_str (pa_cons (pv 9) pa_nil))) (pa_cons (pe_lst pa_nil) pa_nil))))) pa_nil))))) (pss_one (ps_ret pe_bl)) pss_nil))))))
      (pss_one (ps_ret pe_bl))))))))))), ?_⟩
  refine ⟨_, rfl, a, ns, 0, rfl, ha, hl, by omega, fun p H1 s1 np pp => ?_⟩
  refine ⟨_, rfl, p, 6, rfl, pp, by omega, fun many H2 b2 p2 hmany => ?_⟩
  refine ⟨_, rfl, p, 2, rfl, p2, by omega, fun wide H3 b3 p3 hwide => ?_⟩
  refine ⟨_, rfl, p, 9, rfl, p3, by omega, fun first H4 b4 p4 hfirst => ?_⟩
  have s4 : Same H H4 := fun b o e => b4 _ _ (ne_of_none e np) (b3 _ _ (ne_of_none e np) (b2 _ _ (ne_of_none e np) (s1 _ _ e)))
  refine ⟨_, rfl, many, rfl, by omega, by omega, fun D nD => ?_⟩
  have nDp : D ≠ p := by
    obtain ⟨l, hl⟩ := p4.at
    exact Ne.symm (ne_of_none hl nD)
  have nD0 : H D = none := none_of s4 nD
  refine it_any (n := many.toNat) walk_range (fun i H' => ∃ (ys : List V) (rs : List Row), Same H H' ∧ PoolAt H' p ∧ H' D = some (.lst ys) ∧ DpAll K H' ys (rs.map Row.d) ∧ rs.length = i ∧ ∀ r ∈ rs, ka r ∧ r.ok 1 1 0) ⟨[], [], s4.trans (same_new nD), p4.same (same_new nD), upd_same, .nil, rfl, fun r h => by cases h⟩ (fun _ _ _ _ => trivial) ?_ ?_
  · rintro i z H0 H' hi ⟨ys, rs, s5, p5, hD, hys, el, hrs⟩ ⟨rfl, rfl⟩
    refine ⟨rfl, _, rfl, p, 4, rfl, p5, by omega, fun j H6 b6 p6 hj => ?_⟩
    obtain ⟨cd, hcd, hrg⟩ := let4 hj
    refine ⟨_, j, cd, rfl, rfl, (by decide +kernel), hcd, ?_⟩
    refine ⟨_, rfl, p, rfl, p6, fun v e H7 b7 p7 good dv => ?_⟩
    refine ⟨(by show 3 ≤ sizeLine; decide), fun t nt => ?_⟩
    have lys : ys.length = i := by rw [dps_len hys, List.length_map, el]
    have bD : H7 D = some (.lst ys) := b7 _ _ nDp (b6 _ _ nDp hD)
    have s8 : Same H7 (upd H7 t (.tup [.str "keep", .str ⟨#[cd]⟩, v])) := same_new nt
    have ht8 : upd H7 t (.tup [.str "keep", .str ⟨#[cd]⟩, v]) t = some (.tup [.str "keep", .str ⟨#[cd]⟩, v]) := upd_same
    generalize upd H7 t (.tup [.str "keep", .str ⟨#[cd]⟩, v]) = H8 at s8 ht8
    have hD8 := s8 _ _ bD
    have bb : But D H8 (upd H8 D (.lst (ys ++ [.ref t]))) := But.upd
    refine ⟨ys, hD8, by rw [sizeLine_eq]; omega, ys ++ [.ref t], rs ++ [.keep ⟨#[cd]⟩ e], fun b o h => ?_, (p7.same s8).but (Ne.symm nDp) bb, upd_same, ?_, by simp [el], fun r h => ?_⟩
    · have hb : b ≠ p := ne_of_none h np
      exact bb _ _ (ne_of_none h nD0) (s8 _ _ (b7 _ _ hb (b6 _ _ hb (s5 _ _ h))))
    · rw [List.map_append]
      refine dps_app (dps_but (.lst hD8) bb (dps_same s8 (dps_but p6.ch b7 (dps_but p5.ch b6 hys rows_noL') rows_noL')) rows_noL') (.cons (dp_but (.lst hD8) bb ?_ (Row.noL (.keep ⟨#[cd]⟩ e))) .nil)
      exact .tup (.of ht8) (.cons (.str _) (.cons (.str _) (.cons (dp_same s8 dv) .nil)))
    · rcases List.mem_append.mp h with h | h
      · exact hrs r h
      · rw [List.mem_singleton.mp h]
        exact ⟨trivial, hrg, good⟩
  · rintro H5 ⟨ys, rs, s5, p5, hD, hys, el, hrs⟩
    refine ⟨_, rfl, a, ns, 1, rfl, s5.seq ha, hl, by omega, fun pl H6 s6 npl ppl => ?_⟩
    have nDl : D ≠ pl := fun e => by rw [← e, hD] at npl; cases npl
    have lys : ys.length = rs.length := by rw [dps_len hys, List.length_map]
    refine ⟨fun σ' H' => σ' = [some (.ref a), some (.ref p), some (.int many), some (.int wide), some (.int first), none, some (.ref D), some (.ref pl), none, none, none] ∧ ∃ (ys : List V) (rs : List Row), Same H H' ∧ H' D = some (.lst ys) ∧ DpAll K H' ys (rs.map Row.d) ∧ rs.length ≤ 6 ∧ ∀ r ∈ rs, ka r ∧ r.ok 1 1 0, ?_, ?_⟩
    · have last : ∀ (v : V) (e : Exp) (H7 : Hp), But pl H6 H7 → PoolAt H7 pl → e.good → Dp K H7 v e.d → ∀ t, H7 t = none → ∃ l xs y, V.ref D = .ref l ∧ [V.ref t] = [y] ∧ upd H7 t (.tup [.str "answer", v]) l = some (.lst xs) ∧ xs.length < sizeLine ∧
          ∃ (ys : List V) (rs : List Row), Same H (upd (upd H7 t (.tup [.str "answer", v])) l (.lst (xs ++ [y]))) ∧ upd (upd H7 t (.tup [.str "answer", v])) l (.lst (xs ++ [y])) D = some (.lst ys) ∧ DpAll K (upd (upd H7 t (.tup [.str "answer", v])) l (.lst (xs ++ [y]))) ys (rs.map Row.d) ∧ rs.length ≤ 6 ∧ ∀ r ∈ rs, ka r ∧ r.ok 1 1 0 := by
        intro v e H7 b7 p7 good dv t nt
        have bD : H7 D = some (.lst ys) := b7 _ _ nDl (s6 _ _ hD)
        have s8 : Same H7 (upd H7 t (.tup [.str "answer", v])) := same_new nt
        have ht8 : upd H7 t (.tup [.str "answer", v]) t = some (.tup [.str "answer", v]) := upd_same
        generalize upd H7 t (.tup [.str "answer", v]) = H8 at s8 ht8
        have hD8 := s8 _ _ bD
        have bb : But D H8 (upd H8 D (.lst (ys ++ [.ref t]))) := But.upd
        refine ⟨D, ys, .ref t, rfl, rfl, hD8, by rw [sizeLine_eq]; omega, ys ++ [.ref t], rs ++ [.ans e], fun b o h => ?_, upd_same, ?_, by simp; omega, fun r h => ?_⟩
        · have h5 := s5 _ _ h
          exact bb _ _ (ne_of_none h nD0) (s8 _ _ (b7 _ _ (ne_of_none h5 npl) (s6 _ _ h5)))
        · rw [List.map_append]
          refine dps_app (dps_but (.lst hD8) bb (dps_same s8 (dps_but ppl.ch b7 (dps_same s6 hys) rows_noL')) rows_noL') (.cons (dp_but (.lst hD8) bb ?_ (Row.noL (.ans e))) .nil)
          exact .tup (.of ht8) (.cons (.str _) (.cons (dp_same s8 dv) .nil))
        · rcases List.mem_append.mp h with h | h
          · exact hrs r h
          · rw [List.mem_singleton.mp h]
            exact ⟨trivial, good⟩
      refine ⟨_, rfl, rfl, _, rfl, ?_⟩
      by_cases c : wide = 1
      · rw [decide_eq_true (show V.int wide = V.int 1 from congrArg V.int c)]
        refine iteT ⟨_, rfl, .inl ⟨rfl, _, .of (s6 _ _ hD)⟩, _, rfl, pl, 6, rfl, ppl, by omega, fun v e H7 b7 p7 eo dp dv => ⟨(by show 2 ≤ sizeLine; decide), fun t nt => ?_⟩⟩
        obtain ⟨l, xs, y, h1, h2, h3, h4, h5⟩ := last v e H7 b7 p7 ⟨eo, dp⟩ dv t nt
        exact ⟨l, xs, y, h1, h2, h3, h4, rfl, h5⟩
      · rw [decide_eq_false (show ¬ V.int wide = V.int 1 from fun z => c (V.int.inj z))]
        refine iteF ⟨_, rfl, .inl ⟨rfl, _, .of (s6 _ _ hD)⟩, _, rfl, pl, rfl, ppl, fun v e H7 b7 p7 good dv => ⟨(by show 2 ≤ sizeLine; decide), fun t nt => ?_⟩⟩
        obtain ⟨l, xs, y, h1, h2, h3, h4, h5⟩ := last v e H7 b7 p7 good dv t nt
        exact ⟨l, xs, y, h1, h2, h3, h4, rfl, h5⟩
    · rintro σ' H7 ⟨rfl, ys, rs, s7, hD, hys, el, hrs⟩
      refine ⟨_, rfl, (by show 2 ≤ sizeLine; decide), fun t1 nt1 => ⟨(by show 1 ≤ sizeLine; decide), fun l1 nl1 => ?_⟩⟩
      have w1 : Same H7 (upd H7 t1 (.tup [.int 9, .int first])) := same_new nt1
      have x1 : upd H7 t1 (.tup [.int 9, .int first]) t1 = some (.tup [.int 9, .int first]) := upd_same
      generalize upd H7 t1 (.tup [.int 9, .int first]) = G1 at w1 x1 nl1 ⊢
      have w2 : Same G1 (upd G1 l1 (.lst [.ref t1])) := same_new nl1
      have x2 : upd G1 l1 (.lst [.ref t1]) l1 = some (.lst [.ref t1]) := upd_same
      generalize upd G1 l1 (.lst [.ref t1]) = G2 at w2 x2 ⊢
      have hD2 := w2 _ _ (w1 _ _ hD)
      refine ⟨_, rfl, .inl ⟨D, ys, rfl, .of hD2, fun t2 nt2 => ⟨(by show 3 ≤ sizeLine; decide), fun t3 nt3 => ⟨(by show 1 ≤ sizeLine; decide), fun l2 nl2 => ?_⟩⟩⟩⟩
      have w3 : Same G2 (upd G2 t2 (.tup ys)) := same_new nt2
      have x3 : upd G2 t2 (.tup ys) t2 = some (.tup ys) := upd_same
      generalize upd G2 t2 (.tup ys) = G3 at w3 x3 nt3 nl2 ⊢
      have w4 : Same G3 (upd G3 t3 (.tup [.str "tell", .int 9, .ref t2])) := same_new nt3
      have x4 : upd G3 t3 (.tup [.str "tell", .int 9, .ref t2]) t3 = some (.tup [.str "tell", .int 9, .ref t2]) := upd_same
      generalize upd G3 t3 (.tup [.str "tell", .int 9, .ref t2]) = G4 at w4 x4 nl2 ⊢
      have w5 : Same G4 (upd G4 l2 (.lst [.ref t3])) := same_new nl2
      have x5 : upd G4 l2 (.lst [.ref t3]) l2 = some (.lst [.ref t3]) := upd_same
      generalize upd G4 l2 (.lst [.ref t3]) = G5 at w5 x5 ⊢
      intro x dx hx hdx ne
      have w6 : Same G5 (upd (upd G5 dx (.own x)) x (.ins (He.ga K "Vault") dx [])) := (same_new hdx).trans (same_new (by rw [upd_ne (Ne.symm ne)]; exact hx))
      have w26 := ((w3.trans w4).trans w5).trans w6
      have w36 := (w4.trans w5).trans w6
      have hgood : VGood (oneV [(9, first)] "tell" rs) := by
        refine oneV_good (Nat.le_refl 1) (by show 1 ≤ 6; decide) (fun c hc => ?_) ⟨by decide +kernel, by decide +kernel, by decide +kernel⟩ (fun r hr => ka_flat (hrs r hr).1) (fun r hr => (hrs r hr).2) (by omega)
        rw [List.mem_singleton.mp hc]
        exact ⟨by show (1 : Int) ≤ 9; decide, by show (9 : Int) ≤ 9; decide, hfirst.1, hfirst.2⟩
      have erows : (PyData.tuple (rowsD rs)) = .tuple (rs.map Row.d) := by rw [rowsD_map]
      refine ⟨x, dx, l1, l2, [.ref t1], [.ref t3], oneV [(9, first)] "tell" rs, rfl, upd_same, .of (w26 _ _ x2), .cons (.tup (.of ((w2.trans w26) _ _ x1)) (.cons (.int _) (.cons (.int _) .nil))) .nil, .of (w6 _ _ x5), .cons (.tup (.of ((w5.trans w6) _ _ x4)) (.cons (.str _) (.cons (.int _) (.cons ?_ .nil)))) .nil, ?_, fun H8 b8 vt => ⟨rfl, ?_⟩⟩
      · rw [erows]
        exact .tup (.of (w36 _ _ x3)) (dps_same (((w1.trans w2).trans w3).trans w36) hys)
      · exact hgood
      have w16 := w1.trans (w2.trans w26)
      have s78 : Same H7 H8 := fun b o e => b8 _ _ (ne_of_none (((((w1.trans w2).trans w3).trans w4).trans w5) _ _ e) hx) (w16 _ _ e)
      have s08 := s7.trans s78
      have hD8 := s78 _ _ hD
      have hys8 := dps_same s78 hys
      have fl : ∀ r ∈ rs, flat r := fun r hr => ka_flat (hrs r hr).1
      have l63 : ((ns.map V.int).length : Int) ≤ 63 := by rw [List.length_map]; omega
      generalize hL : ((ns.map V.int).length : Int) = L at l63
      have hm : ∀ M : Int, M = (if (if (14 : Int) < L then 14 else L) > 4 then (if (14 : Int) < L then 14 else L) else 4) → 4 ≤ M ∧ M ≤ 14 := fun M e => by
        rw [e]
        split <;> split <;> omega
      have hm := hm _ rfl
      refine ⟨_, rfl, _, _, rfl, .inl (s08.seq ha), _, _, rfl, _, _, rfl, _, _, rfl, ?_⟩
      rw [hL]
      generalize (if (if (14 : Int) < L then 14 else L) > 4 then (if (14 : Int) < L then 14 else L) else 4) = M at hm ⊢
      refine ⟨by omega, for_it (n := (M - 2).toNat) walk_range (fun i σ' H' => ∃ (z5 z9 z10 : Option V), σ' = [some (.ref a), some (.ref p), some (.int many), some (.int wide), some (.int first), z5, some (.ref D), some (.ref pl), some (.ref x), z9, z10] ∧ Same H8 H') ⟨none, none, none, rfl, Same.refl _⟩ (fun _ _ _ _ _ => trivial) ?_ ?_⟩
      · rintro i z σ' H9 H' hi ⟨z5, z9, z10, rfl, s9⟩ ⟨rfl, rfl⟩
        refine ⟨_, rfl, _, rfl, a, ns, 2 + (i : Int), rfl, (s08.trans s9).seq ha, hl, by omega, fun p3 J1 r1 np3 pp3 => ⟨p3, 9, rfl, pp3, by omega, fun arg J2 c2 pq harg => ?_⟩⟩
        have r2 : Same H8 J2 := fun b o e => c2 _ _ (ne_of_none (s9 _ _ e) np3) (r1 _ _ (s9 _ _ e))
        refine ⟨_, rfl, _, rfl, D, ys, rs, arg, 1, rfl, .of (r2 _ _ hD8), dps_same r2 hys8, hrs, by omega, fun J3 r3 => ?_⟩
        have r3 := r2.trans r3
        -- how the machine goes
        have hfin := fin_flat rs [] (mst0 (codeOf rs) [9] [first] [] arg) fl (code_flat fl) rfl rfl
        obtain ⟨g1, g2, g3⟩ := goR_ka rs (mst0 (codeOf rs) [9] [first] [] arg) (fun r hr => (hrs r hr).1) rfl
        generalize goR rs (mst0 (codeOf rs) [9] [first] [] arg) = go at hfin g1 g2 g3
        obtain ⟨n, hn, fin, _⟩ := hfin
        rw [g3] at fin
        have g1 : go.1.res = some (dueK rs (r0 arg)) := g1
        have g2 : go.1.cells = [first] := g2
        have isc : ∀ (J : Hp) (u1 u2 u3 : Addr), Same H8 J → J u1 = some (.tup [.int first]) → J u2 = some (.tup [.str "tell", .int arg]) → J u3 = some (.lst []) → CallIs K J x u1 u2 u3 (oneV [(9, first)] "tell" rs) [first] [] ("tell", 9, rs) arg := fun J u1 u2 u3 sJ h1 h2 h3 =>
          ⟨vt.same sJ, hgood, .of h1, ⟨rfl, fun i s h e1 e2 => by
            cases i with
            | zero =>
              cases (Option.some.inj e1)
              cases (Option.some.inj e2)
              exact hfirst
            | succ i => cases e2⟩, h2, List.mem_singleton.mpr rfl, harg, .of h3, by decide, fun f h => by cases h⟩
        refine ⟨_, rfl, _, rfl, (by show 1 ≤ sizeLine; decide), fun t5 nt5 => ⟨(by show 2 ≤ sizeLine; decide), fun t6 nt6 => ?_⟩⟩
        have v1 : Same J3 (upd J3 t5 (.tup [.int first])) := same_new nt5
        have y1 : upd J3 t5 (.tup [.int first]) t5 = some (.tup [.int first]) := upd_same
        generalize upd J3 t5 (.tup [.int first]) = J4 at v1 y1 nt6 ⊢
        have v2 : Same J4 (upd J4 t6 (.tup [.int (dueK rs (r0 arg)), .ref t5])) := same_new nt6
        have y2 : upd J4 t6 (.tup [.int (dueK rs (r0 arg)), .ref t5]) t6 = some (.tup [.int (dueK rs (r0 arg)), .ref t5]) := upd_same
        generalize upd J4 t6 (.tup [.int (dueK rs (r0 arg)), .ref t5]) = J5 at v2 y2 ⊢
        have due : Dp K J5 (.ref t6) (.tuple [.int (dueK rs (r0 arg)), .tuple [.int first]]) := .tup (.of y2) (.cons (.int _) (.cons (.tup (.of (v2 _ _ y1)) (.cons (.int _) .nil)) .nil))
        refine ⟨_, rfl, _, rfl, (by show 1 ≤ sizeLine; decide), fun u1 nu1 => ⟨_, rfl, (by show 2 ≤ sizeLine; decide), fun u2 nu2 => ⟨(by show 0 ≤ sizeLine; decide), fun u3 nu3 => ?_⟩⟩⟩
        have o1 : Same J5 (upd J5 u1 (.tup [.int first])) := same_new nu1
        have e1 : upd J5 u1 (.tup [.int first]) u1 = some (.tup [.int first]) := upd_same
        generalize upd J5 u1 (.tup [.int first]) = G1 at o1 e1 nu2 nu3 ⊢
        have o2 : Same G1 (upd G1 u2 (.tup [.str "tell", .int arg])) := same_new nu2
        have e2 : upd G1 u2 (.tup [.str "tell", .int arg]) u2 = some (.tup [.str "tell", .int arg]) := upd_same
        generalize upd G1 u2 (.tup [.str "tell", .int arg]) = G2 at o2 e2 nu3 ⊢
        have o3 : Same G2 (upd G2 u3 (.lst [])) := same_new nu3
        have e3 : upd G2 u3 (.lst []) u3 = some (.lst []) := upd_same
        generalize upd G2 u3 (.lst []) = G3 at o3 e3 ⊢
        have o23 := o2.trans o3
        have o13 := o1.trans o23
        have r6 := (r3.trans v1).trans v2
        refine ⟨x, u1, u2, u3, oneV [(9, first)] "tell" rs, [first], [], ("tell", 9, rs), arg, n, go.1, _, rfl, isc _ u1 u2 u3 (r6.trans o13) (o23 _ _ e1) (o3 _ _ e2) e3, fin.fin, g1, fun zz J6 s10 nz dz => ?_⟩
        rw [show cellsD go.1 = .tuple [.int first] from by unfold cellsD; rw [g2]; rfl] at dz
        refine ⟨.ref t6, .ref zz, _, rfl, dp_same (o13.trans s10) due, dz, by simp [dpt, dpts], by simp [nar, nars], fun J7 s11 => ⟨_, rfl, iteF ?_⟩⟩
        have r8 := ((r6.trans o13).trans s10).trans s11
        refine ⟨(by show 0 ≤ sizeLine; decide), fun t7 nt7 => ?_⟩
        have v7 : Same J7 (upd J7 t7 (.lst [])) := same_new nt7
        have y7 : upd J7 t7 (.lst []) t7 = some (.lst []) := upd_same
        generalize upd J7 t7 (.lst []) = J8 at v7 y7 ⊢
        refine ⟨_, rfl, _, rfl, (by show 1 ≤ sizeLine; decide), fun u1 nu1 => ⟨_, rfl, (by show 2 ≤ sizeLine; decide), fun u2 nu2 => ⟨(by show 0 ≤ sizeLine; decide), fun u3 nu3 => ?_⟩⟩⟩
        have m1 : Same J8 (upd J8 u1 (.tup [.int first])) := same_new nu1
        have f1 : upd J8 u1 (.tup [.int first]) u1 = some (.tup [.int first]) := upd_same
        generalize upd J8 u1 (.tup [.int first]) = W1 at m1 f1 nu2 nu3 ⊢
        have m2 : Same W1 (upd W1 u2 (.tup [.str "tell", .int arg])) := same_new nu2
        have f2 : upd W1 u2 (.tup [.str "tell", .int arg]) u2 = some (.tup [.str "tell", .int arg]) := upd_same
        generalize upd W1 u2 (.tup [.str "tell", .int arg]) = W2 at m2 f2 nu3 ⊢
        have m3 : Same W2 (upd W2 u3 (.lst [])) := same_new nu3
        have f3 : upd W2 u3 (.lst []) u3 = some (.lst []) := upd_same
        generalize upd W2 u3 (.lst []) = W3 at m3 f3 ⊢
        have m23 := m2.trans m3
        have m13 := m1.trans m23
        refine ⟨x, u1, u2, u3, oneV [(9, first)] "tell" rs, [first], [], ("tell", 9, rs), arg, n, go.1, [], rfl, isc _ u1 u2 u3 ((r8.trans v7).trans m13) (m23 _ _ f1) (m3 _ _ f2) f3, fin, by simp, fun zz yz J9 s12 nz hz dz => ?_⟩
        refine ⟨.ref t7, .ref zz, .list [], rfl, .lst (.of ((m13.trans s12) _ _ y7)) .nil, .lst (.of hz) dz, by simp [dpt, dpts], by simp [nar, nars], fun J10 s13 => ⟨_, rfl, iteF ⟨_, _, _, rfl, ?_⟩⟩⟩
        exact (((r8.trans v7).trans m13).trans s12).trans s13
      · rintro σ' H' ⟨_, _, _, rfl, _⟩
        exact q _
end

end M

open PySem PySem.W PySem.Calls PyProof.Rows
set_option maxRecDepth 100000 in
set_option maxHeartbeats 0 in
theorem PySem.Challenge.cw_pastless_k05_expressions_worked_out_holds : PySem.Challenge.rw_pastless_k05_expressions_worked_out.Holds := by
  w_on; o_law
  refine HandSHeadRun.head_any (r := OpenLaw.row PySem.Challenge.rw_pastless_k05_expressions_worked_out) (q := view (OpenLaw.row PySem.Challenge.rw_pastless_k05_expressions_worked_out).prog [87]) (H := M.hk) (ob := M.ob) (M := 8000) (loose := M.names) (d := HandSHeadRun.topDef (OpenLaw.row PySem.Challenge.rw_pastless_k05_expressions_worked_out).prog 87) (kwd := []) M.ob_eq
    (by kernel_rfl) (fun s => by kernel_rfl) M.run (by kernel_rfl) (by kernel_rfl) (by kernel_rfl) (by rfl) (by first | assumption | decide +kernel) (by decide +kernel) ⟨rfl, rfl, rfl, rfl, rfl, by decide +kernel⟩ ?hw ?hc
  case hw => w_witness2
  case hc =>
    refine L2.walk_ofE (l := PySem.Challenge.rw_pastless_k05_expressions_worked_out) (n := 63) (k := 56) (x := "_law_script") (CX := L2.CX0) rfl (by decide) (by kernel_rfl) ⟨rfl, by decide, by decide⟩ ?F (fun _ _ _ _ z => z)
    intro w mg fa h Y G hmg0
    obtain ⟨K, KX, c⟩ := Y
    have hmg : mg ("law" : PySem.Str) = some (.ref fa) := by
      have e : (HandSHeadRun.topDef (OpenLaw.row PySem.Challenge.rw_pastless_k05_expressions_worked_out).prog 87).name = ("law" : PySem.Str) := by kernel_rfl
      rw [← e]
      exact hmg0
    have T : M.Txt w K mg := ⟨⟨h, c⟩, ⟨h, KX, G⟩⟩
    have e := hmg.symm.trans T.g_law
    cases e
    obtain ⟨fd, hF⟩ := T.f_law
    have b := fun s => L2.FunD.bindsA (ps := ["_law_script"]) hF (fun _ _ _ _ _ _ us hl => match us, hl with | [_], _ => rfl) s
    exact ⟨K, fd, M.spLaw K, KX, fun s v => b s [v] rfl, fun H a ns hl hO hS => ⟨a, ns, rfl, hS, hl, fun _ => rfl⟩, fun base _ _ => M.ok_law T hF⟩
