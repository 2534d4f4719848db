import PyProof.Rows.All
import Wide.All
import OpenK.AllK
import Wide.FinOn
import KE.KStateDown
import HandS.ForMost
import HandS.ForExc
import HandS.More
import HandS.Conv
import HandS.IsInst
import HandS.DictComp
import HandS.Zip
import HandS.Walk
import HandS.SetKeys
import HandS.Codes
import HandS.CallLocal
import HandS.WrittenGet
import HandS.TryMany
import HandS.ExcField
import HandS.Flow
import HandS.Style
import HandS.Evl
import HandS.Wide
import HandS.WideBits
import HandS.Defaults
import HandS.Head0
import HandS.Head1
import HandS.Head2
import HandS.HeadEnd
import HandS.HeadHook1
import HandS.HeadHook2
import HandS.HeadHook3
import HandS.HeadHook4
import HandS.ExcOwn
import HandS.TryOnly
import HandS.TryElse
import HandS.TupAny
import HandS.ExcInit
import KE.KDictZip
import HandS.OwnIter
import PySem.Challenge.RW_pastless_k04_names_calls_and_begun
set_option Elab.async false
set_option linter.all false
set_option maxRecDepth 100000
set_option maxHeartbeats 2000000
namespace M
open PySem PySem.Spec PyProof.Rows L2
def top (i : Nat) : Stmt := PySem.Challenge.pw_pastless_k04_names_calls_and_begun.main.body.getD i (.Pass ⟨0, 0, 0, 0⟩)
abbrev s__wall : Stmt := top 0
abbrev s_NoVault_init : Stmt := inClass (top 5) 0
abbrev s_is_integer : Stmt := top 9
abbrev s_is_within : Stmt := top 10
abbrev s_is_tuple : Stmt := top 11
abbrev s_is_state : Stmt := top 12
abbrev s_check_state : Stmt := top 13
abbrev s_Tally_init : Stmt := inClass (top 24) 0
abbrev s_is_expression : Stmt := top 25
abbrev s_is_part : Stmt := top 26
abbrev s_is_body_row : Stmt := top 27
abbrev s_are_body_rows : Stmt := top 28
abbrev s_is_body : Stmt := top 29
abbrev s_code_of : Stmt := top 31
abbrev s_put_rows : Stmt := top 32
abbrev s_put_if : Stmt := top 33
abbrev s_put_times : Stmt := top 34
abbrev s_Vault_init : Stmt := inClass (top 39) 0
abbrev s_Vault_sizes : Stmt := inClass (top 39) 1
abbrev s_Vault_first : Stmt := inClass (top 39) 2
abbrev s_Vault_names : Stmt := inClass (top 39) 3
abbrev s_Vault_choices : Stmt := inClass (top 39) 4
abbrev s_Vault_rows : Stmt := inClass (top 39) 5
abbrev s_Vault_calls : Stmt := inClass (top 39) 6
abbrev s_Vault_has_coins : Stmt := inClass (top 39) 7
abbrev s_Vault_shape : Stmt := inClass (top 39) 8
abbrev s_Vault_starts : Stmt := inClass (top 39) 9
abbrev s_Vault_deed : Stmt := inClass (top 39) 10
abbrev s_Vault_eq : Stmt := inClass (top 39) 11
abbrev s_has_row : Stmt := top 40
abbrev s_is_cell : Stmt := top 41
abbrev s_are_cells : Stmt := top 42
abbrev s_is_name : Stmt := top 43
abbrev s_is_deed_head : Stmt := top 44
abbrev s_is_deed : Stmt := top 45
abbrev s_are_deeds : Stmt := top 46
abbrev s_begun : Stmt := top 47
abbrev s_l_pool : Stmt := top 49
abbrev s_l_draw : Stmt := top 50
abbrev s_l_e : Stmt := top 51
abbrev s_l_rows : Stmt := top 52
abbrev s_l_body : Stmt := top 53
abbrev s_l_calls : Stmt := top 54
abbrev s_l_same : Stmt := top 55
abbrev s_l_odd : Stmt := top 56
abbrev s_l_good_int : Stmt := top 57
abbrev s_l_wide_cells : Stmt := top 58
abbrev s_l_wide_deeds : Stmt := top 59
abbrev s_l_choices : Stmt := top 60
abbrev s_l_rows_of : Stmt := top 61
abbrev s_l_name : Stmt := top 62
abbrev s_l_asked_name : Stmt := top 63
abbrev s_l_state : Stmt := top 64
abbrev s_l_good_state : Stmt := top 65
abbrev s_l_asked_state : Stmt := top 66
abbrev s_law : Stmt := top 67
abbrev dd (x : Str) (st : Stmt) : He.DefD := ⟨(x, none), x, x, defArgs st, defBody st, defScope st, [], []⟩
abbrev dm (C m q : Str) (st : Stmt) : He.DefD := ⟨(C, some m), m, q, defArgs st, defBody st, defScope st, [], []⟩
def fn : List He.DefD := [dd "_wall" s__wall, dm "NoVault" "__init__" "NoVault.__init__" s_NoVault_init, dd "is_integer" s_is_integer, dd "is_within" s_is_within, dd "is_tuple" s_is_tuple, dd "is_state" s_is_state, dd "check_state" s_check_state, dm "Tally" "__init__" "Tally.__init__" s_Tally_init, dd "is_expression" s_is_expression, dd "is_part" s_is_part, dd "is_body_row" s_is_body_row, dd "are_body_rows" s_are_body_rows, dd "is_body" s_is_body, dd "code_of" s_code_of, dd "put_rows" s_put_rows, dd "put_if" s_put_if, dd "put_times" s_put_times, dm "Vault" "__init__" "Vault.__init__" s_Vault_init, dm "Vault" "sizes" "Vault.sizes" s_Vault_sizes, dm "Vault" "first" "Vault.first" s_Vault_first, dm "Vault" "names" "Vault.names" s_Vault_names, dm "Vault" "choices" "Vault.choices" s_Vault_choices, dm "Vault" "rows" "Vault.rows" s_Vault_rows, dm "Vault" "calls" "Vault.calls" s_Vault_calls, dm "Vault" "has_coins" "Vault.has_coins" s_Vault_has_coins, dm "Vault" "shape" "Vault.shape" s_Vault_shape, dm "Vault" "starts" "Vault.starts" s_Vault_starts, dm "Vault" "_deed" "Vault._deed" s_Vault_deed, dm "Vault" "__eq__" "Vault.__eq__" s_Vault_eq, dd "has_row" s_has_row, dd "is_cell" s_is_cell, dd "are_cells" s_are_cells, dd "is_name" s_is_name, dd "is_deed_head" s_is_deed_head, dd "is_deed" s_is_deed, dd "are_deeds" s_are_deeds, dd "begun" s_begun, dd "_law_pool" s_l_pool, dd "_law_draw" s_l_draw, dd "_law_e" s_l_e, dd "_law_rows" s_l_rows, dd "_law_body" s_l_body, dd "_law_calls" s_l_calls, dd "_law_same" s_l_same, dd "_law_odd" s_l_odd, dd "_law_good_int" s_l_good_int, dd "_law_wide_cells" s_l_wide_cells, dd "_law_wide_deeds" s_l_wide_deeds, dd "_law_choices" s_l_choices, dd "_law_rows_of" s_l_rows_of, dd "_law_name" s_l_name, dd "_law_asked_name" s_l_asked_name, dd "_law_state" s_l_state, dd "_law_good_state" s_l_good_state, dd "_law_asked_state" s_l_asked_state, dd "law" s_law]
def fa0 : List He.Fa := [.glo "_wall", .glo "is_integer", .glo "is_within", .glo "is_tuple", .glo "is_state", .glo "check_state", .glo "is_expression", .glo "is_part", .glo "is_body_row", .glo "are_body_rows", .glo "is_body", .glo "code_of", .glo "put_rows", .glo "put_if", .glo "put_times", .glo "has_row", .glo "is_cell", .glo "are_cells", .glo "is_name", .glo "is_deed_head", .glo "is_deed", .glo "are_deeds", .glo "begun", .glo "_law_pool", .glo "_law_draw", .glo "_law_e", .glo "_law_rows", .glo "_law_body", .glo "_law_calls", .glo "_law_same"]
def fa1 : List He.Fa := [.glo "_law_odd", .glo "_law_good_int", .glo "_law_wide_cells", .glo "_law_wide_deeds", .glo "_law_choices", .glo "_law_rows_of", .glo "_law_name", .glo "_law_asked_name", .glo "_law_state", .glo "_law_good_state", .glo "_law_asked_state", .glo "law", .glo "PastError", .glo "NoName", .glo "NoState", .glo "NoVault", .glo "Tally", .cls "Tally", .mkr "Tally", .noat "Tally" "cells", .noat "Tally" "coins", .noat "Tally" "lines", .glo "Vault", .cls "Vault", .mkr "Vault", .meth "Vault" "sizes", .meth "Vault" "first", .meth "Vault" "names", .meth "Vault" "choices", .meth "Vault" "rows"]
def fa2 : List He.Fa := [.meth "Vault" "calls", .meth "Vault" "has_coins", .meth "Vault" "shape", .meth "Vault" "starts", .meth "Vault" "_deed", .noat "Vault" "_cells", .noat "Vault" "_deeds", .noat "Vault" "_codes", .noat "Vault" "_coins", .exc "NoName", .exc "NoState", .exm "NoState" "NoName" false, .exm "NoName" "NoName" true, .exm "NoVault" "NoName" false, .exm "NoState" "NoState" true, .exm "NoName" "NoState" false, .exm "NoVault" "NoState" false, .free "len", .free "isinstance", .free "int", .free "abs", .free "tuple", .free "list", .free "str", .free "bool", .free "range", .free "zip", .free "enumerate", .free "set", .free "min"]
def fa3 : List He.Fa := [.free "max", .free "reversed", .free "sorted", .free "sum", .free "dict", .int "MOST_CELLS" (6), .int "GREATEST_SIZE" (9), .glo "CHANGED", .glo "HELD", .glo "SIGNS", .glo "FORMS", .int "DEEPEST_EXPRESSION" (6), .int "DEEPEST_ROW" (12), .int "DEEPEST_TIMES" (2), .int "MOST_COINS" (4), .int "MOST_ROWS" (2000), .int "MOST_DEEDS" (8), .int "LONGEST_NAME" (8), .int "MOST_CHOICES" (9)]
def fa : List He.Fa := fa0 ++ fa1 ++ fa2 ++ fa3
/-- the values of a written dict are tuples of texts -/
def formsB (K : PySem.W.Frag) (a : Addr) (kvs : List (Str × List Str)) : Bool := kvs.all fun q => match PySem.W.nsIn K a q.1 with
  | some (some (.ref t)) => (match K.lookup t with
    | some ⟨.type c, none, .seq its _, _⟩ => decide (c = "tuple") && (decide (its.size ≤ sizeLine) && He.relAll (q.2.map V.str) its.toList)
    | _ => false)
  | _ => false
/-- the class x is an error with its own __init__, which keeps the field f -/
def oexS (K : PySem.W.Frag) (C : Addr) : Bool := match K.lookup C with
  | some ⟨.type t, _, .cls cd, sl⟩ => (match cd.mro, sl.toList with
    | .ref D :: bm, [_, _, _, _, some (.builtin n), _] => decide (t = "type") && (decide (D = C) && (decide (n = "ValueError.__new__") && (cd.hasDict && (!cd.hasDel && PySem.HandSPX.refsVE bm))))
    | _, _ => false)
  | _ => false
def oexB (K : PySem.W.Frag) (x f : Str) : Bool := oexS K (He.ga K x) && (He.eqO (PySem.W.findIn K (.ref (He.ga K x)) "__setattr__") (some (some (.builtin "object.__setattr__"))) && (decide (PySem.W.subIn K (.ref (He.ga K x)) (.type "BaseException") = some true) &&
  (decide (PySem.W.typeIn K (.ref (He.ga K x)) = some (.type "type")) && (PySem.W.keepIn K (.ref (He.ga K x)) && (xfB K (He.ga K x) && (He.eqO (PySem.W.findIn K (.ref (He.ga K x)) f) (some none) &&
  (He.eqO (PySem.W.findIn K (.ref (He.ga K x)) "__init__") (some (some (.ref (He.ma K (He.ga K x) "__init__")))) && decide (PySem.W.typeIn K (.ref (He.ma K (He.ga K x) "__init__")) = some (.type "function")))))))))
/-- the class x reads its __init__ off ValueError -/
def pinB (K : PySem.W.Frag) (x : Str) : Bool := PySem.W.readsIn K (He.ga K x) (.type "type") && (decide (PySem.W.specialIn K (.ref (He.ga K x)) "__getattribute__" = some (some (.builtin "type.__getattribute__"))) &&
  (match PySem.W.findCls K (.ref (He.ga K x)) (.type "type") "__init__" with
    | some (.val (.builtin i)) => decide (i = "ValueError.__init__")
    | _ => false))
/-- what == and isinstance ask of the class x, which has its own == -/
def ownB (K : PySem.W.Frag) (x : Str) : Bool := He.eqO (PySem.W.findIn K (.ref (He.ga K x)) "__class__") (some (some (.builtin "object.__class__"))) && (He.eqO (PySem.W.specialIn K (.builtin "object.__class__") "__get__") (some (some (.builtin "getset_descriptor.__get__"))) && (decide (PySem.W.takesIn K (.builtin "object.__class__") = some true) &&
  (decide (PySem.W.mroIn K (He.ga K x) (.type "object") = some true) && (decide (PySem.W.kitOne K (.ref (He.ga K x)) (.ref (He.ga K x)) = some true) &&
  ((["NoneType", "bool", "int", "str", "list", "tuple", "dict"] : List String).all (fun t => decide (PySem.W.kitOne K (.type t) (.ref (He.ga K x)) = some false) && decide (PySem.W.kitOne K (.ref (He.ga K x)) (.type t) = some false)) &&
  (decide (PySem.W.subIn K (.ref (He.ga K x)) (.type "str") = some false) && ((He.eqO (PySem.W.findIn K (.ref (He.ga K x)) "__eq__") (some (some (.ref (He.ma K (He.ga K x) "__eq__")))) && PySem.W.isFn K (.ref (He.ma K (He.ga K x) "__eq__"))) &&
  PySem.W.notFirst K (He.ga K x) (.ref (He.ga K x)))))))))
def ts : List He.Tab := [((fun K => He.ga K "FORMS"), ["read", "set", "swap", "keep", "coin", "if", "times", "answer"])]
def ex (K : PySem.W.Frag) : Bool := He.tupB K "CHANGED" [.str "a", .str "b", .str "c", .str "d"] && (He.tupB K "HELD" [.str "a", .str "b", .str "c", .str "d", .str "x"] && (He.tupB K "SIGNS" [.str "+", .str "-", .str "*", .str "=", .str "<"] && (formsB K (He.ga K "FORMS") [("read", ["REG", "CELL"]), ("set", ["CELL", "E"]), ("swap", ["REG", "CELL", "E", "E"]), ("keep", ["REG", "E"]), ("coin", ["REG"]), ("if", ["E", "ROWS", "ROWS"]), ("times", ["E", "ROWS"]), ("answer", ["E"])] && (ownB K "Vault"))))
end M

section
set_option maxRecDepth 100000
namespace M
open PySem PySem.Spec PyProof.Rows L2
set_option maxHeartbeats 0
def nm0 : List PySem.Str := ["_wall", "PastError", "NoName", "NoState", "NoVault", "MOST_CELLS", "GREATEST_SIZE", "is_integer", "is_within", "is_tuple", "is_state", "check_state", "CHANGED", "HELD", "SIGNS", "FORMS", "DEEPEST_EXPRESSION", "DEEPEST_ROW", "DEEPEST_TIMES", "MOST_COINS", "MOST_ROWS", "Tally", "is_expression", "is_part", "is_body_row", "are_body_rows", "is_body", "code_of", "put_rows", "put_if"]
def nm1 : List PySem.Str := ["put_times", "MOST_DEEDS", "LONGEST_NAME", "MOST_CHOICES", "Vault", "has_row", "is_cell", "are_cells", "is_name", "is_deed_head", "is_deed", "are_deeds", "begun", "_law_pool", "_law_draw", "_law_e", "_law_rows", "_law_body", "_law_calls", "_law_same", "_law_odd", "_law_good_int", "_law_wide_cells", "_law_wide_deeds", "_law_choices", "_law_rows_of", "_law_name", "_law_asked_name", "_law_state", "_law_good_state"]
def nm2 : List PySem.Str := ["_law_asked_state"]
def names : List PySem.Str := nm0 ++ nm1 ++ nm2
abbrev R : PySem.W.OpenRow := PySem.W.OpenLaw.row PySem.Challenge.rw_pastless_k04_names_calls_and_begun
abbrev hk : PySem.W.Hook := He.hookX 4 fa fn ts [] ex
def ob (s : PySem.W.SharedT) : He.AlX := He.obsX 4 fa fn ts [] ex (HandSHeadRun.getT s)
theorem ob_eq (s : PySem.W.SharedT) : ob s = hk.obs s.abs := He.obsX_eq (HandSHeadRun.getT_eq s)
theorem run_false (w : World) : HandSHeadRun.RunEq R (PySem.W.view R.prog [67]) hk ob 8000 names (w.withFollow "special-get-raises" false) := by
  intro os
  kernel_rfl
theorem run_true (w : World) : HandSHeadRun.RunEq R (PySem.W.view R.prog [67]) hk ob 8000 names (w.withFollow "special-get-raises" true) := by
  intro os
  kernel_rfl
theorem run (w : World) : HandSHeadRun.RunEq R (PySem.W.view R.prog [67]) hk ob 8000 names w :=
  PySem.W.byRow2 "special-get-raises" (P := fun w => HandSHeadRun.RunEq R (PySem.W.view R.prog [67]) hk ob 8000 names w) run_false run_true w
end M
end

namespace M
open PySem PySem.Spec PyProof.Rows L2
/-- what the top has written -/
structure Txt (w : World) (K : PySem.W.Frag) (mg : Str → Option Value) : Prop where
  says : ∃ h, He.SaysX fa fn ts [] ex w h K
  X : ∃ h : Heap, K.In h ∧ h.Ns mainGlobals mg
section
variable {P : Program} {w : World} {K : PySem.W.Frag} {mg : Str → Option Value} {base : Heap}
theorem Txt.fact (T : Txt w K mg) (i : Nat) {f : He.Fa} (h : fa[i]? = some f := by rfl) : f.ok K = true := by
  obtain ⟨_, s⟩ := T.says
  exact s.t.d.fact i h
theorem Txt.glo (T : Txt w K mg) (i : Nat) {x : Str} (h : fa[i]? = some (.glo x) := by rfl) : mg x = some (.ref (He.ga K x)) := by
  obtain ⟨_, X, G⟩ := T.X
  exact He.glo_ok X G (T.fact i h)
theorem Txt.fr (T : Txt w K mg) (i : Nat) {x : Str} (h : fa[i]? = some (.free x) := by rfl) : mg x = none := by
  obtain ⟨_, X, G⟩ := T.X
  exact He.free_ok X G (T.fact i h)
theorem Txt.int (T : Txt w K mg) (i : Nat) {x : Str} {n : Int} (h : fa[i]? = some (.int x n) := by rfl) : ∃ u, mg x = some u ∧ RelV (.int n) u := by
  obtain ⟨_, X, G⟩ := T.X
  obtain ⟨t, e⟩ := He.int_ok X G (T.fact i h)
  exact ⟨_, e, ⟨t, rfl⟩⟩
theorem Txt.fd (T : Txt w K mg) (i : Nat) {d : He.DefD} (h : fn[i]? = some d := by rfl) : ∃ f, FunD K d.name d.qual d.params d.body d.scope (d.dvs K) (d.kws K) (He.fAd K d.at_) f := by
  obtain ⟨_, s⟩ := T.says
  exact s.t.d.def_ i h
theorem Txt.ex (T : Txt w K mg) : ex K = true := by
  obtain ⟨_, s⟩ := T.says
  exact s.more
theorem Txt.tab (T : Txt w K mg) (i : Nat) {t : He.Tab} (h : ts[i]? = some t := by rfl) : ∃ es n, KDict K w (t.1 K) es n := by
  obtain ⟨_, s⟩ := T.says
  exact s.t.tab i h
end
/-! places of the facts: 0 glo "_wall"; 1 glo "is_integer"; 2 glo "is_within"; 3 glo "is_tuple"; 4 glo "is_state"; 5 glo "check_state"; 6 glo "is_expression"; 7 glo "is_part"; 8 glo "is_body_row"; 9 glo "are_body_rows"; 10 glo "is_body"; 11 glo "code_of"; 12 glo "put_rows"; 13 glo "put_if"; 14 glo "put_times"; 15 glo "has_row"; 16 glo "is_cell"; 17 glo "are_cells"; 18 glo "is_name"; 19 glo "is_deed_head"; 20 glo "is_deed"; 21 glo "are_deeds"; 22 glo "begun"; 23 glo "_law_pool"; 24 glo "_law_draw"; 25 glo "_law_e"; 26 glo "_law_rows"; 27 glo "_law_body"; 28 glo "_law_calls"; 29 glo "_law_same"; 30 glo "_law_odd"; 31 glo "_law_good_int"; 32 glo "_law_wide_cells"; 33 glo "_law_wide_deeds"; 34 glo "_law_choices"; 35 glo "_law_rows_of"; 36 glo "_law_name"; 37 glo "_law_asked_name"; 38 glo "_law_state"; 39 glo "_law_good_state"; 40 glo "_law_asked_state"; 41 glo "law"; 42 glo "PastError"; 43 glo "NoName"; 44 glo "NoState"; 45 glo "NoVault"; 46 glo "Tally"; 47 cls "Tally"; 48 mkr "Tally"; 49 noat "Tally" "cells"; 50 noat "Tally" "coins"; 51 noat "Tally" "lines"; 52 glo "Vault"; 53 cls "Vault"; 54 mkr "Vault"; 55 meth "Vault" "sizes"; 56 meth "Vault" "first"; 57 meth "Vault" "names"; 58 meth "Vault" "choices"; 59 meth "Vault" "rows"; 60 meth "Vault" "calls"; 61 meth "Vault" "has_coins"; 62 meth "Vault" "shape"; 63 meth "Vault" "starts"; 64 meth "Vault" "_deed"; 65 noat "Vault" "_cells"; 66 noat "Vault" "_deeds"; 67 noat "Vault" "_codes"; 68 noat "Vault" "_coins"; 69 exc "NoName"; 70 exc "NoState"; 71 exm "NoState" "NoName" false; 72 exm "NoName" "NoName" true; 73 exm "NoVault" "NoName" false; 74 exm "NoState" "NoState" true; 75 exm "NoName" "NoState" false; 76 exm "NoVault" "NoState" false; 77 free "len"; 78 free "isinstance"; 79 free "int"; 80 free "abs"; 81 free "tuple"; 82 free "list"; 83 free "str"; 84 free "bool"; 85 free "range"; 86 free "zip"; 87 free "enumerate"; 88 free "set"; 89 free "min"; 90 free "max"; 91 free "reversed"; 92 free "sorted"; 93 free "sum"; 94 free "dict"; 95 int "MOST_CELLS" (6); 96 int "GREATEST_SIZE" (9); 97 glo "CHANGED"; 98 glo "HELD"; 99 glo "SIGNS"; 100 glo "FORMS"; 101 int "DEEPEST_EXPRESSION" (6); 102 int "DEEPEST_ROW" (12); 103 int "DEEPEST_TIMES" (2); 104 int "MOST_COINS" (4); 105 int "MOST_ROWS" (2000); 106 int "MOST_DEEDS" (8); 107 int "LONGEST_NAME" (8); 108 int "MOST_CHOICES" (9) -/
section
variable {P : Program} {w : World} {K : PySem.W.Frag} {mg : Str → Option Value} {base : Heap}
theorem Txt.g_wall (T : Txt w K mg) : mg "_wall" = some (.ref (He.ga K "_wall")) := T.glo 0
theorem Txt.g_is_integer (T : Txt w K mg) : mg "is_integer" = some (.ref (He.ga K "is_integer")) := T.glo 1
theorem Txt.g_is_within (T : Txt w K mg) : mg "is_within" = some (.ref (He.ga K "is_within")) := T.glo 2
theorem Txt.g_is_tuple (T : Txt w K mg) : mg "is_tuple" = some (.ref (He.ga K "is_tuple")) := T.glo 3
theorem Txt.g_is_state (T : Txt w K mg) : mg "is_state" = some (.ref (He.ga K "is_state")) := T.glo 4
theorem Txt.g_check_state (T : Txt w K mg) : mg "check_state" = some (.ref (He.ga K "check_state")) := T.glo 5
theorem Txt.g_is_expression (T : Txt w K mg) : mg "is_expression" = some (.ref (He.ga K "is_expression")) := T.glo 6
theorem Txt.g_is_part (T : Txt w K mg) : mg "is_part" = some (.ref (He.ga K "is_part")) := T.glo 7
theorem Txt.g_is_body_row (T : Txt w K mg) : mg "is_body_row" = some (.ref (He.ga K "is_body_row")) := T.glo 8
theorem Txt.g_are_body_rows (T : Txt w K mg) : mg "are_body_rows" = some (.ref (He.ga K "are_body_rows")) := T.glo 9
theorem Txt.g_is_body (T : Txt w K mg) : mg "is_body" = some (.ref (He.ga K "is_body")) := T.glo 10
theorem Txt.g_code_of (T : Txt w K mg) : mg "code_of" = some (.ref (He.ga K "code_of")) := T.glo 11
theorem Txt.g_put_rows (T : Txt w K mg) : mg "put_rows" = some (.ref (He.ga K "put_rows")) := T.glo 12
theorem Txt.g_put_if (T : Txt w K mg) : mg "put_if" = some (.ref (He.ga K "put_if")) := T.glo 13
theorem Txt.g_put_times (T : Txt w K mg) : mg "put_times" = some (.ref (He.ga K "put_times")) := T.glo 14
theorem Txt.g_has_row (T : Txt w K mg) : mg "has_row" = some (.ref (He.ga K "has_row")) := T.glo 15
theorem Txt.g_is_cell (T : Txt w K mg) : mg "is_cell" = some (.ref (He.ga K "is_cell")) := T.glo 16
theorem Txt.g_are_cells (T : Txt w K mg) : mg "are_cells" = some (.ref (He.ga K "are_cells")) := T.glo 17
theorem Txt.g_is_name (T : Txt w K mg) : mg "is_name" = some (.ref (He.ga K "is_name")) := T.glo 18
theorem Txt.g_is_deed_head (T : Txt w K mg) : mg "is_deed_head" = some (.ref (He.ga K "is_deed_head")) := T.glo 19
theorem Txt.g_is_deed (T : Txt w K mg) : mg "is_deed" = some (.ref (He.ga K "is_deed")) := T.glo 20
theorem Txt.g_are_deeds (T : Txt w K mg) : mg "are_deeds" = some (.ref (He.ga K "are_deeds")) := T.glo 21
theorem Txt.g_begun (T : Txt w K mg) : mg "begun" = some (.ref (He.ga K "begun")) := T.glo 22
theorem Txt.g_law_pool (T : Txt w K mg) : mg "_law_pool" = some (.ref (He.ga K "_law_pool")) := T.glo 23
theorem Txt.g_law_draw (T : Txt w K mg) : mg "_law_draw" = some (.ref (He.ga K "_law_draw")) := T.glo 24
theorem Txt.g_law_e (T : Txt w K mg) : mg "_law_e" = some (.ref (He.ga K "_law_e")) := T.glo 25
theorem Txt.g_law_rows (T : Txt w K mg) : mg "_law_rows" = some (.ref (He.ga K "_law_rows")) := T.glo 26
theorem Txt.g_law_body (T : Txt w K mg) : mg "_law_body" = some (.ref (He.ga K "_law_body")) := T.glo 27
theorem Txt.g_law_calls (T : Txt w K mg) : mg "_law_calls" = some (.ref (He.ga K "_law_calls")) := T.glo 28
theorem Txt.g_law_same (T : Txt w K mg) : mg "_law_same" = some (.ref (He.ga K "_law_same")) := T.glo 29
theorem Txt.g_law_odd (T : Txt w K mg) : mg "_law_odd" = some (.ref (He.ga K "_law_odd")) := T.glo 30
theorem Txt.g_law_good_int (T : Txt w K mg) : mg "_law_good_int" = some (.ref (He.ga K "_law_good_int")) := T.glo 31
theorem Txt.g_law_wide_cells (T : Txt w K mg) : mg "_law_wide_cells" = some (.ref (He.ga K "_law_wide_cells")) := T.glo 32
theorem Txt.g_law_wide_deeds (T : Txt w K mg) : mg "_law_wide_deeds" = some (.ref (He.ga K "_law_wide_deeds")) := T.glo 33
theorem Txt.g_law_choices (T : Txt w K mg) : mg "_law_choices" = some (.ref (He.ga K "_law_choices")) := T.glo 34
theorem Txt.g_law_rows_of (T : Txt w K mg) : mg "_law_rows_of" = some (.ref (He.ga K "_law_rows_of")) := T.glo 35
theorem Txt.g_law_name (T : Txt w K mg) : mg "_law_name" = some (.ref (He.ga K "_law_name")) := T.glo 36
theorem Txt.g_law_asked_name (T : Txt w K mg) : mg "_law_asked_name" = some (.ref (He.ga K "_law_asked_name")) := T.glo 37
theorem Txt.g_law_state (T : Txt w K mg) : mg "_law_state" = some (.ref (He.ga K "_law_state")) := T.glo 38
theorem Txt.g_law_good_state (T : Txt w K mg) : mg "_law_good_state" = some (.ref (He.ga K "_law_good_state")) := T.glo 39
theorem Txt.g_law_asked_state (T : Txt w K mg) : mg "_law_asked_state" = some (.ref (He.ga K "_law_asked_state")) := T.glo 40
theorem Txt.g_law (T : Txt w K mg) : mg "law" = some (.ref (He.ga K "law")) := T.glo 41
theorem Txt.g_PastError (T : Txt w K mg) : mg "PastError" = some (.ref (He.ga K "PastError")) := T.glo 42
theorem Txt.g_NoName (T : Txt w K mg) : mg "NoName" = some (.ref (He.ga K "NoName")) := T.glo 43
theorem Txt.g_NoState (T : Txt w K mg) : mg "NoState" = some (.ref (He.ga K "NoState")) := T.glo 44
theorem Txt.g_NoVault (T : Txt w K mg) : mg "NoVault" = some (.ref (He.ga K "NoVault")) := T.glo 45
theorem Txt.g_Tally (T : Txt w K mg) : mg "Tally" = some (.ref (He.ga K "Tally")) := T.glo 46
theorem Txt.c_Tally (T : Txt w K mg) : Cls K (He.ga K "Tally") := He.cls_ok (T.fact 47)
theorem Txt.k_Tally (T : Txt w K mg) : Mk K (He.ga K "Tally") (He.ma K (He.ga K "Tally") "__init__") := He.mkr_ok (T.fact 48)
theorem Txt.n_Tally_cells (T : Txt w K mg) : NoAttr K (He.ga K "Tally") "cells" := He.noat_ok (T.fact 49)
theorem Txt.n_Tally_coins (T : Txt w K mg) : NoAttr K (He.ga K "Tally") "coins" := He.noat_ok (T.fact 50)
theorem Txt.n_Tally_lines (T : Txt w K mg) : NoAttr K (He.ga K "Tally") "lines" := He.noat_ok (T.fact 51)
theorem Txt.g_Vault (T : Txt w K mg) : mg "Vault" = some (.ref (He.ga K "Vault")) := T.glo 52
theorem Txt.c_Vault (T : Txt w K mg) : Cls K (He.ga K "Vault") := He.cls_ok (T.fact 53)
theorem Txt.k_Vault (T : Txt w K mg) : Mk K (He.ga K "Vault") (He.ma K (He.ga K "Vault") "__init__") := He.mkr_ok (T.fact 54)
theorem Txt.m_Vault_sizes (T : Txt w K mg) : Meth K (He.ga K "Vault") "sizes" (He.ma K (He.ga K "Vault") "sizes") := He.meth_ok (T.fact 55)
theorem Txt.m_Vault_first (T : Txt w K mg) : Meth K (He.ga K "Vault") "first" (He.ma K (He.ga K "Vault") "first") := He.meth_ok (T.fact 56)
theorem Txt.m_Vault_names (T : Txt w K mg) : Meth K (He.ga K "Vault") "names" (He.ma K (He.ga K "Vault") "names") := He.meth_ok (T.fact 57)
theorem Txt.m_Vault_choices (T : Txt w K mg) : Meth K (He.ga K "Vault") "choices" (He.ma K (He.ga K "Vault") "choices") := He.meth_ok (T.fact 58)
theorem Txt.m_Vault_rows (T : Txt w K mg) : Meth K (He.ga K "Vault") "rows" (He.ma K (He.ga K "Vault") "rows") := He.meth_ok (T.fact 59)
theorem Txt.m_Vault_calls (T : Txt w K mg) : Meth K (He.ga K "Vault") "calls" (He.ma K (He.ga K "Vault") "calls") := He.meth_ok (T.fact 60)
theorem Txt.m_Vault_has_coins (T : Txt w K mg) : Meth K (He.ga K "Vault") "has_coins" (He.ma K (He.ga K "Vault") "has_coins") := He.meth_ok (T.fact 61)
theorem Txt.m_Vault_shape (T : Txt w K mg) : Meth K (He.ga K "Vault") "shape" (He.ma K (He.ga K "Vault") "shape") := He.meth_ok (T.fact 62)
theorem Txt.m_Vault_starts (T : Txt w K mg) : Meth K (He.ga K "Vault") "starts" (He.ma K (He.ga K "Vault") "starts") := He.meth_ok (T.fact 63)
theorem Txt.m_Vault_deed (T : Txt w K mg) : Meth K (He.ga K "Vault") "_deed" (He.ma K (He.ga K "Vault") "_deed") := He.meth_ok (T.fact 64)
theorem Txt.n_Vault_cells (T : Txt w K mg) : NoAttr K (He.ga K "Vault") "_cells" := He.noat_ok (T.fact 65)
theorem Txt.n_Vault_deeds (T : Txt w K mg) : NoAttr K (He.ga K "Vault") "_deeds" := He.noat_ok (T.fact 66)
theorem Txt.n_Vault_codes (T : Txt w K mg) : NoAttr K (He.ga K "Vault") "_codes" := He.noat_ok (T.fact 67)
theorem Txt.n_Vault_coins (T : Txt w K mg) : NoAttr K (He.ga K "Vault") "_coins" := He.noat_ok (T.fact 68)
theorem Txt.x_NoName (T : Txt w K mg) : PySem.W.excIn K (He.ga K "NoName") He.veBase "ValueError.__new__" = true ∧ PySem.W.keepIn K (.ref (He.ga K "NoName")) = true ∧ PySem.W.subIn K (.ref (He.ga K "NoName")) (.type "BaseException") = some true ∧ PySem.W.typeIn K (.ref (He.ga K "NoName")) = some (.type "type") := He.exc_ok (T.fact 69 (f := .exc "NoName"))
theorem Txt.x_NoState (T : Txt w K mg) : PySem.W.excIn K (He.ga K "NoState") He.veBase "ValueError.__new__" = true ∧ PySem.W.keepIn K (.ref (He.ga K "NoState")) = true ∧ PySem.W.subIn K (.ref (He.ga K "NoState")) (.type "BaseException") = some true ∧ PySem.W.typeIn K (.ref (He.ga K "NoState")) = some (.type "type") := He.exc_ok (T.fact 70 (f := .exc "NoState"))
theorem Txt.xm_NoState_NoName (T : Txt w K mg) : PySem.W.exmOne K (.ref (He.ga K "NoState")) (.ref (He.ga K "NoName")) = some false := of_decide_eq_true (T.fact 71 (f := .exm "NoState" "NoName" false))
theorem Txt.xm_NoName (T : Txt w K mg) : PySem.W.exmOne K (.ref (He.ga K "NoName")) (.ref (He.ga K "NoName")) = some true := of_decide_eq_true (T.fact 72 (f := .exm "NoName" "NoName" true))
theorem Txt.xm_NoVault_NoName (T : Txt w K mg) : PySem.W.exmOne K (.ref (He.ga K "NoVault")) (.ref (He.ga K "NoName")) = some false := of_decide_eq_true (T.fact 73 (f := .exm "NoVault" "NoName" false))
theorem Txt.xm_NoState (T : Txt w K mg) : PySem.W.exmOne K (.ref (He.ga K "NoState")) (.ref (He.ga K "NoState")) = some true := of_decide_eq_true (T.fact 74 (f := .exm "NoState" "NoState" true))
theorem Txt.xm_NoName_NoState (T : Txt w K mg) : PySem.W.exmOne K (.ref (He.ga K "NoName")) (.ref (He.ga K "NoState")) = some false := of_decide_eq_true (T.fact 75 (f := .exm "NoName" "NoState" false))
theorem Txt.xm_NoVault_NoState (T : Txt w K mg) : PySem.W.exmOne K (.ref (He.ga K "NoVault")) (.ref (He.ga K "NoState")) = some false := of_decide_eq_true (T.fact 76 (f := .exm "NoVault" "NoState" false))
theorem Txt.b_len (T : Txt w K mg) : mg "len" = none := T.fr 77
theorem Txt.b_isinstance (T : Txt w K mg) : mg "isinstance" = none := T.fr 78
theorem Txt.b_int (T : Txt w K mg) : mg "int" = none := T.fr 79
theorem Txt.b_abs (T : Txt w K mg) : mg "abs" = none := T.fr 80
theorem Txt.b_tuple (T : Txt w K mg) : mg "tuple" = none := T.fr 81
theorem Txt.b_list (T : Txt w K mg) : mg "list" = none := T.fr 82
theorem Txt.b_str (T : Txt w K mg) : mg "str" = none := T.fr 83
theorem Txt.b_bool (T : Txt w K mg) : mg "bool" = none := T.fr 84
theorem Txt.b_range (T : Txt w K mg) : mg "range" = none := T.fr 85
theorem Txt.b_zip (T : Txt w K mg) : mg "zip" = none := T.fr 86
theorem Txt.b_enumerate (T : Txt w K mg) : mg "enumerate" = none := T.fr 87
theorem Txt.b_set (T : Txt w K mg) : mg "set" = none := T.fr 88
theorem Txt.b_min (T : Txt w K mg) : mg "min" = none := T.fr 89
theorem Txt.b_max (T : Txt w K mg) : mg "max" = none := T.fr 90
theorem Txt.b_reversed (T : Txt w K mg) : mg "reversed" = none := T.fr 91
theorem Txt.b_sorted (T : Txt w K mg) : mg "sorted" = none := T.fr 92
theorem Txt.b_sum (T : Txt w K mg) : mg "sum" = none := T.fr 93
theorem Txt.b_dict (T : Txt w K mg) : mg "dict" = none := T.fr 94
theorem Txt.i_MOST_CELLS (T : Txt w K mg) : ∃ u, mg "MOST_CELLS" = some u ∧ RelV (.int 6) u := T.int 95
theorem Txt.i_GREATEST_SIZE (T : Txt w K mg) : ∃ u, mg "GREATEST_SIZE" = some u ∧ RelV (.int 9) u := T.int 96
theorem Txt.g_CHANGED (T : Txt w K mg) : mg "CHANGED" = some (.ref (He.ga K "CHANGED")) := T.glo 97
theorem Txt.g_HELD (T : Txt w K mg) : mg "HELD" = some (.ref (He.ga K "HELD")) := T.glo 98
theorem Txt.g_SIGNS (T : Txt w K mg) : mg "SIGNS" = some (.ref (He.ga K "SIGNS")) := T.glo 99
theorem Txt.g_FORMS (T : Txt w K mg) : mg "FORMS" = some (.ref (He.ga K "FORMS")) := T.glo 100
theorem Txt.i_DEEPEST_EXPRESSION (T : Txt w K mg) : ∃ u, mg "DEEPEST_EXPRESSION" = some u ∧ RelV (.int 6) u := T.int 101
theorem Txt.i_DEEPEST_ROW (T : Txt w K mg) : ∃ u, mg "DEEPEST_ROW" = some u ∧ RelV (.int 12) u := T.int 102
theorem Txt.i_DEEPEST_TIMES (T : Txt w K mg) : ∃ u, mg "DEEPEST_TIMES" = some u ∧ RelV (.int 2) u := T.int 103
theorem Txt.i_MOST_COINS (T : Txt w K mg) : ∃ u, mg "MOST_COINS" = some u ∧ RelV (.int 4) u := T.int 104
theorem Txt.i_MOST_ROWS (T : Txt w K mg) : ∃ u, mg "MOST_ROWS" = some u ∧ RelV (.int 2000) u := T.int 105
theorem Txt.i_MOST_DEEDS (T : Txt w K mg) : ∃ u, mg "MOST_DEEDS" = some u ∧ RelV (.int 8) u := T.int 106
theorem Txt.i_LONGEST_NAME (T : Txt w K mg) : ∃ u, mg "LONGEST_NAME" = some u ∧ RelV (.int 8) u := T.int 107
theorem Txt.i_MOST_CHOICES (T : Txt w K mg) : ∃ u, mg "MOST_CHOICES" = some u ∧ RelV (.int 9) u := T.int 108
theorem Txt.f__wall (T : Txt w K mg) : ∃ f, FunD K "_wall" "_wall" (defArgs s__wall) (defBody s__wall) (defScope s__wall) [] [] (He.fAd K ("_wall", none)) f := T.fd 0
theorem Txt.f_NoVault_init (T : Txt w K mg) : ∃ f, FunD K "__init__" "NoVault.__init__" (defArgs s_NoVault_init) (defBody s_NoVault_init) (defScope s_NoVault_init) [] [] (He.fAd K ("NoVault", some "__init__")) f := T.fd 1
theorem Txt.f_is_integer (T : Txt w K mg) : ∃ f, FunD K "is_integer" "is_integer" (defArgs s_is_integer) (defBody s_is_integer) (defScope s_is_integer) [] [] (He.fAd K ("is_integer", none)) f := T.fd 2
theorem Txt.f_is_within (T : Txt w K mg) : ∃ f, FunD K "is_within" "is_within" (defArgs s_is_within) (defBody s_is_within) (defScope s_is_within) [] [] (He.fAd K ("is_within", none)) f := T.fd 3
theorem Txt.f_is_tuple (T : Txt w K mg) : ∃ f, FunD K "is_tuple" "is_tuple" (defArgs s_is_tuple) (defBody s_is_tuple) (defScope s_is_tuple) [] [] (He.fAd K ("is_tuple", none)) f := T.fd 4
theorem Txt.f_is_state (T : Txt w K mg) : ∃ f, FunD K "is_state" "is_state" (defArgs s_is_state) (defBody s_is_state) (defScope s_is_state) [] [] (He.fAd K ("is_state", none)) f := T.fd 5
theorem Txt.f_check_state (T : Txt w K mg) : ∃ f, FunD K "check_state" "check_state" (defArgs s_check_state) (defBody s_check_state) (defScope s_check_state) [] [] (He.fAd K ("check_state", none)) f := T.fd 6
theorem Txt.f_Tally_init (T : Txt w K mg) : ∃ f, FunD K "__init__" "Tally.__init__" (defArgs s_Tally_init) (defBody s_Tally_init) (defScope s_Tally_init) [] [] (He.fAd K ("Tally", some "__init__")) f := T.fd 7
theorem Txt.f_is_expression (T : Txt w K mg) : ∃ f, FunD K "is_expression" "is_expression" (defArgs s_is_expression) (defBody s_is_expression) (defScope s_is_expression) [] [] (He.fAd K ("is_expression", none)) f := T.fd 8
theorem Txt.f_is_part (T : Txt w K mg) : ∃ f, FunD K "is_part" "is_part" (defArgs s_is_part) (defBody s_is_part) (defScope s_is_part) [] [] (He.fAd K ("is_part", none)) f := T.fd 9
theorem Txt.f_is_body_row (T : Txt w K mg) : ∃ f, FunD K "is_body_row" "is_body_row" (defArgs s_is_body_row) (defBody s_is_body_row) (defScope s_is_body_row) [] [] (He.fAd K ("is_body_row", none)) f := T.fd 10
theorem Txt.f_are_body_rows (T : Txt w K mg) : ∃ f, FunD K "are_body_rows" "are_body_rows" (defArgs s_are_body_rows) (defBody s_are_body_rows) (defScope s_are_body_rows) [] [] (He.fAd K ("are_body_rows", none)) f := T.fd 11
theorem Txt.f_is_body (T : Txt w K mg) : ∃ f, FunD K "is_body" "is_body" (defArgs s_is_body) (defBody s_is_body) (defScope s_is_body) [] [] (He.fAd K ("is_body", none)) f := T.fd 12
theorem Txt.f_code_of (T : Txt w K mg) : ∃ f, FunD K "code_of" "code_of" (defArgs s_code_of) (defBody s_code_of) (defScope s_code_of) [] [] (He.fAd K ("code_of", none)) f := T.fd 13
theorem Txt.f_put_rows (T : Txt w K mg) : ∃ f, FunD K "put_rows" "put_rows" (defArgs s_put_rows) (defBody s_put_rows) (defScope s_put_rows) [] [] (He.fAd K ("put_rows", none)) f := T.fd 14
theorem Txt.f_put_if (T : Txt w K mg) : ∃ f, FunD K "put_if" "put_if" (defArgs s_put_if) (defBody s_put_if) (defScope s_put_if) [] [] (He.fAd K ("put_if", none)) f := T.fd 15
theorem Txt.f_put_times (T : Txt w K mg) : ∃ f, FunD K "put_times" "put_times" (defArgs s_put_times) (defBody s_put_times) (defScope s_put_times) [] [] (He.fAd K ("put_times", none)) f := T.fd 16
theorem Txt.f_Vault_init (T : Txt w K mg) : ∃ f, FunD K "__init__" "Vault.__init__" (defArgs s_Vault_init) (defBody s_Vault_init) (defScope s_Vault_init) [] [] (He.fAd K ("Vault", some "__init__")) f := T.fd 17
theorem Txt.f_Vault_sizes (T : Txt w K mg) : ∃ f, FunD K "sizes" "Vault.sizes" (defArgs s_Vault_sizes) (defBody s_Vault_sizes) (defScope s_Vault_sizes) [] [] (He.fAd K ("Vault", some "sizes")) f := T.fd 18
theorem Txt.f_Vault_first (T : Txt w K mg) : ∃ f, FunD K "first" "Vault.first" (defArgs s_Vault_first) (defBody s_Vault_first) (defScope s_Vault_first) [] [] (He.fAd K ("Vault", some "first")) f := T.fd 19
theorem Txt.f_Vault_names (T : Txt w K mg) : ∃ f, FunD K "names" "Vault.names" (defArgs s_Vault_names) (defBody s_Vault_names) (defScope s_Vault_names) [] [] (He.fAd K ("Vault", some "names")) f := T.fd 20
theorem Txt.f_Vault_choices (T : Txt w K mg) : ∃ f, FunD K "choices" "Vault.choices" (defArgs s_Vault_choices) (defBody s_Vault_choices) (defScope s_Vault_choices) [] [] (He.fAd K ("Vault", some "choices")) f := T.fd 21
theorem Txt.f_Vault_rows (T : Txt w K mg) : ∃ f, FunD K "rows" "Vault.rows" (defArgs s_Vault_rows) (defBody s_Vault_rows) (defScope s_Vault_rows) [] [] (He.fAd K ("Vault", some "rows")) f := T.fd 22
theorem Txt.f_Vault_calls (T : Txt w K mg) : ∃ f, FunD K "calls" "Vault.calls" (defArgs s_Vault_calls) (defBody s_Vault_calls) (defScope s_Vault_calls) [] [] (He.fAd K ("Vault", some "calls")) f := T.fd 23
theorem Txt.f_Vault_has_coins (T : Txt w K mg) : ∃ f, FunD K "has_coins" "Vault.has_coins" (defArgs s_Vault_has_coins) (defBody s_Vault_has_coins) (defScope s_Vault_has_coins) [] [] (He.fAd K ("Vault", some "has_coins")) f := T.fd 24
theorem Txt.f_Vault_shape (T : Txt w K mg) : ∃ f, FunD K "shape" "Vault.shape" (defArgs s_Vault_shape) (defBody s_Vault_shape) (defScope s_Vault_shape) [] [] (He.fAd K ("Vault", some "shape")) f := T.fd 25
theorem Txt.f_Vault_starts (T : Txt w K mg) : ∃ f, FunD K "starts" "Vault.starts" (defArgs s_Vault_starts) (defBody s_Vault_starts) (defScope s_Vault_starts) [] [] (He.fAd K ("Vault", some "starts")) f := T.fd 26
theorem Txt.f_Vault_deed (T : Txt w K mg) : ∃ f, FunD K "_deed" "Vault._deed" (defArgs s_Vault_deed) (defBody s_Vault_deed) (defScope s_Vault_deed) [] [] (He.fAd K ("Vault", some "_deed")) f := T.fd 27
theorem Txt.f_Vault_eq (T : Txt w K mg) : ∃ f, FunD K "__eq__" "Vault.__eq__" (defArgs s_Vault_eq) (defBody s_Vault_eq) (defScope s_Vault_eq) [] [] (He.fAd K ("Vault", some "__eq__")) f := T.fd 28
theorem Txt.f_has_row (T : Txt w K mg) : ∃ f, FunD K "has_row" "has_row" (defArgs s_has_row) (defBody s_has_row) (defScope s_has_row) [] [] (He.fAd K ("has_row", none)) f := T.fd 29
theorem Txt.f_is_cell (T : Txt w K mg) : ∃ f, FunD K "is_cell" "is_cell" (defArgs s_is_cell) (defBody s_is_cell) (defScope s_is_cell) [] [] (He.fAd K ("is_cell", none)) f := T.fd 30
theorem Txt.f_are_cells (T : Txt w K mg) : ∃ f, FunD K "are_cells" "are_cells" (defArgs s_are_cells) (defBody s_are_cells) (defScope s_are_cells) [] [] (He.fAd K ("are_cells", none)) f := T.fd 31
theorem Txt.f_is_name (T : Txt w K mg) : ∃ f, FunD K "is_name" "is_name" (defArgs s_is_name) (defBody s_is_name) (defScope s_is_name) [] [] (He.fAd K ("is_name", none)) f := T.fd 32
theorem Txt.f_is_deed_head (T : Txt w K mg) : ∃ f, FunD K "is_deed_head" "is_deed_head" (defArgs s_is_deed_head) (defBody s_is_deed_head) (defScope s_is_deed_head) [] [] (He.fAd K ("is_deed_head", none)) f := T.fd 33
theorem Txt.f_is_deed (T : Txt w K mg) : ∃ f, FunD K "is_deed" "is_deed" (defArgs s_is_deed) (defBody s_is_deed) (defScope s_is_deed) [] [] (He.fAd K ("is_deed", none)) f := T.fd 34
theorem Txt.f_are_deeds (T : Txt w K mg) : ∃ f, FunD K "are_deeds" "are_deeds" (defArgs s_are_deeds) (defBody s_are_deeds) (defScope s_are_deeds) [] [] (He.fAd K ("are_deeds", none)) f := T.fd 35
theorem Txt.f_begun (T : Txt w K mg) : ∃ f, FunD K "begun" "begun" (defArgs s_begun) (defBody s_begun) (defScope s_begun) [] [] (He.fAd K ("begun", none)) f := T.fd 36
theorem Txt.f_l_pool (T : Txt w K mg) : ∃ f, FunD K "_law_pool" "_law_pool" (defArgs s_l_pool) (defBody s_l_pool) (defScope s_l_pool) [] [] (He.fAd K ("_law_pool", none)) f := T.fd 37
theorem Txt.f_l_draw (T : Txt w K mg) : ∃ f, FunD K "_law_draw" "_law_draw" (defArgs s_l_draw) (defBody s_l_draw) (defScope s_l_draw) [] [] (He.fAd K ("_law_draw", none)) f := T.fd 38
theorem Txt.f_l_e (T : Txt w K mg) : ∃ f, FunD K "_law_e" "_law_e" (defArgs s_l_e) (defBody s_l_e) (defScope s_l_e) [] [] (He.fAd K ("_law_e", none)) f := T.fd 39
theorem Txt.f_l_rows (T : Txt w K mg) : ∃ f, FunD K "_law_rows" "_law_rows" (defArgs s_l_rows) (defBody s_l_rows) (defScope s_l_rows) [] [] (He.fAd K ("_law_rows", none)) f := T.fd 40
theorem Txt.f_l_body (T : Txt w K mg) : ∃ f, FunD K "_law_body" "_law_body" (defArgs s_l_body) (defBody s_l_body) (defScope s_l_body) [] [] (He.fAd K ("_law_body", none)) f := T.fd 41
theorem Txt.f_l_calls (T : Txt w K mg) : ∃ f, FunD K "_law_calls" "_law_calls" (defArgs s_l_calls) (defBody s_l_calls) (defScope s_l_calls) [] [] (He.fAd K ("_law_calls", none)) f := T.fd 42
theorem Txt.f_l_same (T : Txt w K mg) : ∃ f, FunD K "_law_same" "_law_same" (defArgs s_l_same) (defBody s_l_same) (defScope s_l_same) [] [] (He.fAd K ("_law_same", none)) f := T.fd 43
theorem Txt.f_l_odd (T : Txt w K mg) : ∃ f, FunD K "_law_odd" "_law_odd" (defArgs s_l_odd) (defBody s_l_odd) (defScope s_l_odd) [] [] (He.fAd K ("_law_odd", none)) f := T.fd 44
theorem Txt.f_l_good_int (T : Txt w K mg) : ∃ f, FunD K "_law_good_int" "_law_good_int" (defArgs s_l_good_int) (defBody s_l_good_int) (defScope s_l_good_int) [] [] (He.fAd K ("_law_good_int", none)) f := T.fd 45
theorem Txt.f_l_wide_cells (T : Txt w K mg) : ∃ f, FunD K "_law_wide_cells" "_law_wide_cells" (defArgs s_l_wide_cells) (defBody s_l_wide_cells) (defScope s_l_wide_cells) [] [] (He.fAd K ("_law_wide_cells", none)) f := T.fd 46
theorem Txt.f_l_wide_deeds (T : Txt w K mg) : ∃ f, FunD K "_law_wide_deeds" "_law_wide_deeds" (defArgs s_l_wide_deeds) (defBody s_l_wide_deeds) (defScope s_l_wide_deeds) [] [] (He.fAd K ("_law_wide_deeds", none)) f := T.fd 47
theorem Txt.f_l_choices (T : Txt w K mg) : ∃ f, FunD K "_law_choices" "_law_choices" (defArgs s_l_choices) (defBody s_l_choices) (defScope s_l_choices) [] [] (He.fAd K ("_law_choices", none)) f := T.fd 48
theorem Txt.f_l_rows_of (T : Txt w K mg) : ∃ f, FunD K "_law_rows_of" "_law_rows_of" (defArgs s_l_rows_of) (defBody s_l_rows_of) (defScope s_l_rows_of) [] [] (He.fAd K ("_law_rows_of", none)) f := T.fd 49
theorem Txt.f_l_name (T : Txt w K mg) : ∃ f, FunD K "_law_name" "_law_name" (defArgs s_l_name) (defBody s_l_name) (defScope s_l_name) [] [] (He.fAd K ("_law_name", none)) f := T.fd 50
theorem Txt.f_l_asked_name (T : Txt w K mg) : ∃ f, FunD K "_law_asked_name" "_law_asked_name" (defArgs s_l_asked_name) (defBody s_l_asked_name) (defScope s_l_asked_name) [] [] (He.fAd K ("_law_asked_name", none)) f := T.fd 51
theorem Txt.f_l_state (T : Txt w K mg) : ∃ f, FunD K "_law_state" "_law_state" (defArgs s_l_state) (defBody s_l_state) (defScope s_l_state) [] [] (He.fAd K ("_law_state", none)) f := T.fd 52
theorem Txt.f_l_good_state (T : Txt w K mg) : ∃ f, FunD K "_law_good_state" "_law_good_state" (defArgs s_l_good_state) (defBody s_l_good_state) (defScope s_l_good_state) [] [] (He.fAd K ("_law_good_state", none)) f := T.fd 53
theorem Txt.f_l_asked_state (T : Txt w K mg) : ∃ f, FunD K "_law_asked_state" "_law_asked_state" (defArgs s_l_asked_state) (defBody s_l_asked_state) (defScope s_l_asked_state) [] [] (He.fAd K ("_law_asked_state", none)) f := T.fd 54
theorem Txt.f_law (T : Txt w K mg) : ∃ f, FunD K "law" "law" (defArgs s_law) (defBody s_law) (defScope s_law) [] [] (He.fAd K ("law", none)) f := T.fd 55
theorem Txt.e_CHANGED (T : Txt w K mg) : He.tupB K "CHANGED" [.str "a", .str "b", .str "c", .str "d"] = true := (He.ba T.ex).1
theorem Txt.e_HELD (T : Txt w K mg) : He.tupB K "HELD" [.str "a", .str "b", .str "c", .str "d", .str "x"] = true := (He.ba (He.ba T.ex).2).1
theorem Txt.e_SIGNS (T : Txt w K mg) : He.tupB K "SIGNS" [.str "+", .str "-", .str "*", .str "=", .str "<"] = true := (He.ba (He.ba (He.ba T.ex).2).2).1
theorem Txt.e_FORMS (T : Txt w K mg) : formsB K (He.ga K "FORMS") [("read", ["REG", "CELL"]), ("set", ["CELL", "E"]), ("swap", ["REG", "CELL", "E", "E"]), ("keep", ["REG", "E"]), ("coin", ["REG"]), ("if", ["E", "ROWS", "ROWS"]), ("times", ["E", "ROWS"]), ("answer", ["E"])] = true := (He.ba (He.ba (He.ba (He.ba T.ex).2).2).2).1
theorem Txt.e_own_Vault (T : Txt w K mg) : ownB K "Vault" = true := (He.ba (He.ba (He.ba (He.ba T.ex).2).2).2).2
theorem Txt.t_FORMS (T : Txt w K mg) : ∃ es n, KDict K w (He.ga K "FORMS") es n := T.tab 0
end
end M

set_option Elab.async false
set_option linter.all false
set_option maxRecDepth 100000
set_option maxHeartbeats 2000000
namespace M
open PySem PySem.Spec PyProof.Rows L2
/-! ### defs by their names, what they promise -/
/-- the global name x holds a def that keeps sp at level k -/
structure Ca (P : Program) (w : World) (K : PySem.W.Frag) (mg : Str → Option Value) (base : Heap) (k : Nat) (x : Str) (sp : Sp) : Prop where
  ex : ∃ (f : Addr) (fd : FuncData) (ps : List Str), FnOk P w K mg base CX0 k f fd ps sp ∧ mg x = some (.ref f) ∧ PySem.W.keepIn K (.ref f) = true ∧ Binds K fd ps []
/-- a method of the class C -/
structure Me (P : Program) (w : World) (K : PySem.W.Frag) (mg : Str → Option Value) (base : Heap) (k : Nat) (C : Addr) (m : Str) (sp : Sp) : Prop where
  ex : ∃ (f : Addr) (fd : FuncData) (ps : List Str), Cls K C ∧ Meth K C m f ∧ FnOk P w K mg base CX0 k f fd ps sp ∧ Binds K fd ps []
/-- the class x is made by its __init__ -/
structure Ma (P : Program) (w : World) (K : PySem.W.Frag) (mg : Str → Option Value) (base : Heap) (k : Nat) (x : Str) (C : Addr) (sp : Sp) : Prop where
  ex : ∃ (f : Addr) (fd : FuncData) (ps : List Str), Mk K C f ∧ FnOk P w K mg base CX0 k f fd ps sp ∧ mg x = some (.ref C) ∧ Binds K fd ps []
section
variable {P : Program} {w : World} {K : PySem.W.Frag} {mg : Str → Option Value} {base : Heap} {x m q : Str} {st : Stmt} {N ps : List Str} {k : Nat} {sp : Sp} {C f : Addr}
abbrev BindsH (x q : Str) (st : Stmt) (ps : List Str) : Prop := ∀ (kV doc pm : Value) (an : Option Addr) (cdv ct : Value) (us : List Value), us.length = ps.length → bindArgs (PySem.W.fnOf x q (defArgs st) (defBody st) (defScope st) .none kV doc pm an cdv ct) ⟨us, []⟩ = pure (ps.zip us)
abbrev BodyH (P : Program) (w : World) (K : PySem.W.Frag) (mg : Str → Option Value) (base : Heap) (q : Str) (st : Stmt) (N : List Str) (k : Nat) (f : Addr) (sp : Sp) : Prop := ∀ (cdv : Value) (A : Around) (outer : List Env) (s : Shared) (H : Hp) (vs : List V) (Q : VK) (E : XK), Room k (A.deeper (envOfC q (defScope st) s.heap.objs.size f cdv)) → sp vs H Q E →
      ∃ t, PSs (cxOf CX0 P w K mg base N q (defScope st) f cdv A outer s H E).nox (defBody st) t ∧ t { nx := fun _ H' => Q .non H', rt := Q } (start N vs) H
theorem fn_d {fd : FuncData} (F : FunD K x q (defArgs st) (defBody st) (defScope st) [] [] f fd) (S : FnScope N ps (defScope st)) (len : ∀ vs H Q E, sp vs H Q E → vs.length = ps.length)
    (hbody : BodyH P w K mg base q st N k f sp) : FnOk P w K mg base CX0 (k + 1) f fd ps sp := by
  refine F.ok S len (fun cdv A outer s H vs Q E hr h => ?_)
  obtain ⟨t, h1, h2⟩ := hbody cdv A outer s H vs Q E hr h
  exact ⟨t, h1.nox, h2⟩
theorem ca_of (F : ∃ fd, FunD K x x (defArgs st) (defBody st) (defScope st) [] [] (He.fAd K (x, none)) fd) (g : mg x = some (.ref (He.ga K x))) (S : FnScope N ps (defScope st)) (hb : BindsH x x st ps) (len : ∀ vs H Q E, sp vs H Q E → vs.length = ps.length)
    (hbody : BodyH P w K mg base x st N k (He.fAd K (x, none)) sp) : Ca P w K mg base (k + 1) x sp := by
  obtain ⟨fd, F⟩ := F
  exact ⟨_, fd, ps, fn_d F S len hbody, g, F.kp, F.bindsN hb⟩
theorem me_of {C : Str} (F : ∃ fd, FunD K m q (defArgs st) (defBody st) (defScope st) [] [] (He.fAd K (C, some m)) fd) (c : Cls K (He.ga K C)) (g : Meth K (He.ga K C) m (He.ma K (He.ga K C) m)) (S : FnScope N ps (defScope st)) (hb : BindsH m q st ps) (len : ∀ vs H Q E, sp vs H Q E → vs.length = ps.length)
    (hbody : BodyH P w K mg base q st N k (He.fAd K (C, some m)) sp) : Me P w K mg base (k + 1) (He.ga K C) m sp := by
  obtain ⟨fd, F⟩ := F
  exact ⟨_, fd, ps, c, g, fn_d F S len hbody, F.bindsN hb⟩
theorem ma_of {C : Str} (F : ∃ fd, FunD K "__init__" q (defArgs st) (defBody st) (defScope st) [] [] (He.fAd K (C, some "__init__")) fd) (g : mg C = some (.ref (He.ga K C))) (mk : Mk K (He.ga K C) (He.ma K (He.ga K C) "__init__")) (S : FnScope N ps (defScope st)) (hb : BindsH "__init__" q st ps) (len : ∀ vs H Q E, sp vs H Q E → vs.length = ps.length)
    (hbody : BodyH P w K mg base q st N k (He.fAd K (C, some "__init__")) sp) : Ma P w K mg base (k + 1) C (He.ga K C) sp := by
  obtain ⟨fd, F⟩ := F
  exact ⟨_, fd, ps, mk, fn_d F S len hbody, g, F.bindsN hb⟩
theorem Ca.mono {j : Nat} (c : Ca P w K mg base j x sp) (h : j ≤ k) : Ca P w K mg base k x sp := by
  obtain ⟨f, fd, ps, F, r⟩ := c.ex
  exact ⟨f, fd, ps, F.mono h, r⟩
end
section
variable {X : Cx} {k j : Nat} {x m : Str} {sp : Sp} {C : Addr} {p pos apos : Pos} {e o : Expr} {es : List Expr} {t : TA} {ta : TE}
theorem pe_ca (c : Ca X.prog X.w X.K X.mg X.base k x sp) (hr : Room j X.A) (ha : PA X (e :: es) t) (hk : k ≤ j := by decide) (hg : Gl X x := by rfl)
    (hdb : (x == ("__debug__" : Str)) = false := by decide) (he : starEach (e :: es) X.env = (false, eval e X.env) :: starEach es X.env := by rfl) (hpl : (backTo pos (starEach es X.env)).any (·.1) = false := by rfl) :
    PE X (.Call (.Name x p) (e :: es) [] pos) (tCall sp [] E0 t) := by
  obtain ⟨f, fd, ps, F, hm, kp, b⟩ := c.ex
  exact pe_call F (hr.mono hk) hg hm kp b .nil pass0 ha hdb he hpl
theorem pe_ma (c : Ma X.prog X.w X.K X.mg X.base k x C sp) (hr : Room j X.A) (ha : PA X (e :: es) t) (hk : k + 1 ≤ j := by decide) (hg : Gl X x := by rfl)
    (hdb : (x == ("__debug__" : Str)) = false := by decide) (he : starEach (e :: es) X.env = (false, eval e X.env) :: starEach es X.env := by rfl) (hpl : (backTo pos (starEach es X.env)).any (·.1) = false := by rfl) :
    PE X (.Call (.Name x p) (e :: es) [] pos) (tMake C sp [] E0 t) := by
  obtain ⟨f, fd, ps, M, F, hm, b⟩ := c.ex
  exact pe_make M F (hr.mono hk) hg hm b .nil pass0 ha hdb he hpl
theorem pe_me0 {pl : Sem Bool} (c : Me X.prog X.w X.K X.mg X.base k C m sp) (hr : Room j X.A) (he : PE X o ta) (hk : k ≤ j := by decide)
    (ht : eval (.Call (.Attribute o m apos) [] [] pos) X.env = (do
      let ov ← eval o X.env
      standAt apos.atName
      let (f, first) ← holding [ov] (getMethod ov m pl)
      callWith pos f first (backTo pos (starEach [] X.env)) (backToKw pos (keywordEach [] X.env))) := by rfl) :
    PE X (.Call (.Attribute o m apos) [] [] pos) (tMeth C m sp [] E0 ta tNil) := by
  obtain ⟨f, fd, ps, hc, hm, F, b⟩ := c.ex
  exact pe_meth0 (pl := pl) he hc hm F (hr.mono hk) b .nil pass0 ht
theorem pe_me {pl : Sem Bool} (c : Me X.prog X.w X.K X.mg X.base k C m sp) (hr : Room j X.A) (he : PE X o ta) (ha : PA X (e :: es) t) (hk : k ≤ j := by decide)
    (hst : starEach (e :: es) X.env = (false, eval e X.env) :: starEach es X.env := by rfl) (hpl : (backTo pos (starEach es X.env)).any (·.1) = false := by rfl)
    (ht : eval (.Call (.Attribute o m apos) (e :: es) [] pos) X.env = (do
      let ov ← eval o X.env
      standAt apos.atName
      let (f, first) ← holding [ov] (getMethod ov m pl)
      callWith pos f first (backTo pos (starEach (e :: es) X.env)) (backToKw pos (keywordEach [] X.env))) := by rfl) :
    PE X (.Call (.Attribute o m apos) (e :: es) [] pos) (tMeth C m sp [] E0 ta t) := by
  obtain ⟨f, fd, ps, hc, hm, F, b⟩ := c.ex
  exact pe_meth (pl := pl) he hc hm F (hr.mono hk) b .nil pass0 ha hst hpl ht
/-- isinstance(a, b) -/
theorem pe_isi {a b : Expr} {ta tb : TE} (h : X.mg "isinstance" = none) (ha : PE X a ta) (hb : PE X b tb) (hg : Gl X "isinstance" := by rfl)
    (he : starEach [a, b] X.env = (false, eval a X.env) :: starEach [b] X.env := by rfl) (hpl : (backTo pos (starEach [b] X.env)).any (·.1) = false := by rfl)
    (he2 : starEach [b] X.env = (false, eval b X.env) :: starEach [] X.env := by rfl) :
    PE X (.Call (.Name "isinstance" p) [a, b] [] pos) (tCB (rIsi X.K) (tCons ta (tCons tb tNil))) :=
  pe_callB call_isi hg h boot_isinstance (pa_cons ha (pa_cons hb pa_nil he2) he) (he := he) (hpl := hpl)
/-- a built-in class as a value -/
theorem pe_ty {n : String} {x : Str} (h : X.mg x = none) (hv : bootBuiltins x = some (.type n)) (hg : Gl X x := by rfl) (hn : x ≠ "__name__" := by decide) (hd : (x == ("__debug__" : Str)) = false := by decide) : PE X (.Name x pos) (tC (.ty n)) := pe_bltn hg h hv rfl hn hd
theorem pe_gi {n : Int} {x : Str} (h : ∃ u, X.mg x = some u ∧ RelV (.int n) u) (hg : Gl X x := by rfl) (hd : (x == ("__debug__" : Str)) = false := by decide) : PE X (.Name x pos) (tC (.int n)) := by
  obtain ⟨u, hm, r⟩ := h
  exact pe_glob hg hm r hd
theorem pe_gr {x : Str} {a : Addr} (h : X.mg x = some (.ref a)) (hg : Gl X x := by rfl) (hd : (x == ("__debug__" : Str)) = false := by decide) : PE X (.Name x pos) (tC (.ref a)) := pe_glob hg h rfl hd
end
section
variable {X : Cx} {i j k : Nat} {x y z : Str} {p1 p2 p3 pos : Pos} {n : Nat}
/-- a, b as a target -/
theorem pg_two (K : PySem.W.Frag) (i j : Nat) (hK : X.K = K) (hc : X.calm = true) (nd : X.N.Nodup) (hi : X.N[i]? = some x) (hj : X.N[j]? = some y) (hx : Loc X.env.scope x) (hy : Loc X.env.scope y)
    (fx : X.fn x = true ∨ X.env.scope.names.lookup x = some .local) (fy : X.fn y = true ∨ X.env.scope.names.lookup y = some .local) :
    PG X (.Tuple [.Name x p1, .Name y p2] n pos) (gTup K 2 (gCons (gName i) (gCons (gName j) gNil))) := hK ▸
  pg_tup hc (pgs_cons (pg_name nd hi hx fx) (pgs_cons (pg_name nd hj hy fy) pgs_nil))
/-- a, b, c as a target -/
theorem pg_three (K : PySem.W.Frag) (i j k : Nat) (hK : X.K = K) (hc : X.calm = true) (nd : X.N.Nodup) (hi : X.N[i]? = some x) (hj : X.N[j]? = some y) (hk : X.N[k]? = some z) (hx : Loc X.env.scope x) (hy : Loc X.env.scope y) (hz : Loc X.env.scope z)
    (fx : X.fn x = true ∨ X.env.scope.names.lookup x = some .local) (fy : X.fn y = true ∨ X.env.scope.names.lookup y = some .local) (fz : X.fn z = true ∨ X.env.scope.names.lookup z = some .local) :
    PG X (.Tuple [.Name x p1, .Name y p2, .Name z p3] n pos) (gTup K 3 (gCons (gName i) (gCons (gName j) (gCons (gName k) gNil)))) := hK ▸
  pg_tup hc (pgs_cons (pg_name nd hi hx fx) (pgs_cons (pg_name nd hj hy fy) (pgs_cons (pg_name nd hk hz fz) pgs_nil)))
end
theorem boot_int : bootBuiltins "int" = some (.type "int") := by decide +kernel
theorem boot_bool : bootBuiltins "bool" = some (.type "bool") := by decide +kernel
theorem boot_str : bootBuiltins "str" = some (.type "str") := by decide +kernel
theorem boot_list : bootBuiltins "list" = some (.type "list") := by decide +kernel
theorem boot_tuple : bootBuiltins "tuple" = some (.type "tuple") := by decide +kernel
theorem boot_abs : bootBuiltins "abs" = some (.builtin "abs") := by decide +kernel
theorem boot_max : bootBuiltins "max" = some (.builtin "max") := by decide +kernel
theorem boot_min : bootBuiltins "min" = some (.builtin "min") := by decide +kernel
theorem boot_set : bootBuiltins "set" = some (.type "set") := by decide +kernel
/-! ### kinds of values -/
/-- the kinds that the program asks for -/
inductive Kd where
  | non | bool | int | str | list | tuple | dict | obj
  deriving DecidableEq
def Kd.name : Kd → String
  | .non => "NoneType" | .bool => "bool" | .int => "int" | .str => "str" | .list => "list" | .tuple => "tuple" | .dict => "dict" | .obj => "object"
/-- isinstance's answer -/
def Kd.is (k c : Kd) : Bool := decide (k = c) || (decide (k = .bool) && decide (c = .int))
theorem kd_kit {K : PySem.W.Frag} (k c : Kd) (h : k ≠ .obj) (h2 : c ≠ .obj) : PySem.W.kitOne K (.type k.name) (.type c.name) = some (k.is c) := by
  refine kit_ty ?_
  cases k <;> cases c <;> first | decide +kernel | exact absurd rfl h | exact absurd rfl h2
/-- v is of the kind k -/
inductive Of (K : PySem.W.Frag) (H : Hp) : V → Kd → Prop where
  | non : Of K H .non .non
  | bl (b : Bool) : Of K H (.bl b) .bool
  | int (i : Int) : Of K H (.int i) .int
  | str (x : Str) : Of K H (.str x) .str
  | list {a : Addr} {xs : List V} (h : SqL K H a xs) : Of K H (.ref a) .list
  | tuple {a : Addr} {xs : List V} (h : SqT K H a xs) : Of K H (.ref a) .tuple
  | dict {a : Addr} (h : TyX K H (.ref a) (.type "dict")) : Of K H (.ref a) .dict
  | obj {a C : Addr} (h : TyX K H (.ref a) (.ref C)) (hk : ∀ c : Kd, c ≠ .obj → PySem.W.kitOne K (.ref C) (.type c.name) = some false) : Of K H (.ref a) .obj
theorem ty_sqL {K : PySem.W.Frag} {H : Hp} {a : Addr} {xs : List V} (h : SqL K H a xs) : TyX K H (.ref a) (.type "list") := by
  rcases h with (h | ⟨o, h⟩) | ⟨o, its, n, h1, h2, _⟩
  · exact .base (.lst h)
  · exact .base (.frz h)
  · exact .kList h1 h2
theorem ty_sqT {K : PySem.W.Frag} {H : Hp} {a : Addr} {xs : List V} (h : SqT K H a xs) : TyX K H (.ref a) (.type "tuple") := by
  rcases h with (h | ⟨o, h⟩) | ⟨o, its, n, h1, h2, _⟩
  · exact .base (.tup h)
  · exact .fTuple h
  · exact .kTuple h1 h2
/-- what isinstance(v, c) comes to -/
theorem isi_k {K : PySem.W.Frag} {H : Hp} {v : V} {k : Kd} (c : Kd) {Q : VK} (h : Of K H v k) (q : Q (.bl (k.is c)) H) (hc : c ≠ .obj := by decide) : rIsi K [v, .ty c.name] H Q := by
  cases h with
  | non => exact ⟨_, _, _, _, _, rfl, .ty _, .base .non, kd_kit .non c (by decide) hc, q⟩
  | bl b => exact ⟨_, _, _, _, _, rfl, .ty _, .base (.bl b), kd_kit .bool c (by decide) hc, q⟩
  | int b => exact ⟨_, _, _, _, _, rfl, .ty _, .base (.int b), kd_kit .int c (by decide) hc, q⟩
  | str b => exact ⟨_, _, _, _, _, rfl, .ty _, .base (.str b), kd_kit .str c (by decide) hc, q⟩
  | list b => exact ⟨_, _, _, _, _, rfl, .ty _, ty_sqL b, kd_kit .list c (by decide) hc, q⟩
  | tuple b => exact ⟨_, _, _, _, _, rfl, .ty _, ty_sqT b, kd_kit .tuple c (by decide) hc, q⟩
  | dict b => exact ⟨_, _, _, _, _, rfl, .ty _, b, kd_kit .dict c (by decide) hc, q⟩
  | obj b hk => 
    have e : Kd.is .obj c = false := by cases c <;> first | rfl | exact absurd rfl hc
    rw [e] at q
    exact ⟨_, _, _, _, _, rfl, .ty _, b, hk c hc, q⟩
theorem pe_imp {X : Cx} {e : Expr} {t t' : TE} (h : PE X e t) (i : ∀ σ H Q, t' σ H Q → t σ H Q) : PE X e t' := ⟨fun pins s σ H Q I q => h.run pins s σ H Q I (i σ H Q q)⟩
theorem callR_imp {X : Cx} {f : Value} {r r' : List V → Hp → VK → Prop} (h : CallR X f r) (i : ∀ vs H Q, r' vs H Q → r vs H Q) : CallR X f r' := fun pins s σ H xs us Q I rv q => h pins s σ H xs us Q I rv (i xs H Q q)
/-- isinstance(v, c): its kind -/
def rIs (K : PySem.W.Frag) (c : Kd) : List V → Hp → VK → Prop := fun xs H Q => ∃ (v : V) (k : Kd), xs = [v, .ty c.name] ∧ Of K H v k ∧ Q (.bl (k.is c)) H
theorem call_is {X : Cx} (c : Kd) (hc : c ≠ .obj := by decide) : CallR X (.builtin "isinstance") (rIs X.K c) := callR_imp call_isi fun vs H Q ⟨v, k, e, h, q⟩ => by
  subst e
  exact isi_k c h q hc
section
variable {X : Cx} {a : Expr} {ta : TE} {x : Str} {p p2 pos : Pos}
theorem pe_is (c : Kd) (h : X.mg "isinstance" = none) (ha : PE X a ta) (hm : X.mg x = none) (hv : bootBuiltins x = some (.type c.name)) (hc : c ≠ .obj := by decide) (hg2 : Gl X x := by rfl) (hn : x ≠ "__name__" := by decide) (hd : (x == ("__debug__" : Str)) = false := by decide) (hg : Gl X "isinstance" := by rfl)
    (he : starEach [a, .Name x p2] X.env = (false, eval a X.env) :: starEach [.Name x p2] X.env := by rfl) (hpl : (backTo pos (starEach [.Name x p2] X.env)).any (·.1) = false := by rfl)
    (he2 : starEach [.Name x p2] X.env = (false, eval (.Name x p2) X.env) :: starEach [] X.env := by rfl) :
    PE X (.Call (.Name "isinstance" p) [a, .Name x p2] [] pos) (tCB (rIs X.K c) (tCons ta (tCons (tC (.ty c.name)) tNil))) :=
  pe_callB (call_is c hc) hg h boot_isinstance (pa_cons ha (pa_cons (pe_ty (pos := p2) hm hv hg2 hn hd) pa_nil he2) he) (he := he) (hpl := hpl)
end
/-! ### data -/
theorem same_t {K : PySem.W.Frag} {H H' : Hp} {a : Addr} {xs : List V} (e : Same H H') (h : SqT K H a xs) : SqT K H' a xs := by
  rcases h with (h | ⟨o, h⟩) | h
  · exact .inl (.inl (e _ _ h))
  · exact .inl (.inr ⟨o, e _ _ h⟩)
  · exact .inr h
theorem same_new {H : Hp} {p : Addr} {o : HO} (h : H p = none) : Same H (upd H p o) := fun a u e => by
  rw [upd_ne (ne_of_none e h)]
  exact e
mutual
theorem dp_same {K : PySem.W.Frag} {H H' : Hp} (e : Same H H') : ∀ {v : V} {d : PyData}, Dp K H v d → Dp K H' v d
  | _, _, .non => .non
  | _, _, .bl b => .bl b
  | _, _, .int i => .int i
  | _, _, .str x => .str x
  | _, _, .lst h r => .lst (e.seq h) (dps_same e r)
  | _, _, .tup h r => .tup (same_t e h) (dps_same e r)
theorem dps_same {K : PySem.W.Frag} {H H' : Hp} (e : Same H H') : ∀ {vs : List V} {ds : List PyData}, DpAll K H vs ds → DpAll K H' vs ds
  | _, _, .nil => .nil
  | _, _, .cons h r => .cons (dp_same e h) (dps_same e r)
end
def kdOf : PyData → Kd
  | .bool _ => .bool
  | .int _ => .int
  | .str _ => .str
  | .list _ => .list
  | .tuple _ => .tuple
  | _ => .non
theorem dp_kd {K : PySem.W.Frag} {H : Hp} {v : V} {d : PyData} (h : Dp K H v d) : Of K H v (kdOf d) := by
  cases h with
  | non => exact .non
  | bl b => exact .bl b
  | int i => exact .int i
  | str x => exact .str x
  | lst h _ => exact .list h
  | tup h _ => exact .tuple h
end M

set_option Elab.async false
set_option linter.all false
set_option maxRecDepth 100000
set_option maxHeartbeats 2000000
namespace M
open PySem PySem.Spec PyProof.Rows L2

section
variable {P : Program} {w : World} {K : PySem.W.Frag} {mg : Str → Option Value} {base : Heap}
/-! ### pastless.checks -/
def spInteger (K : PySem.W.Frag) : Sp := fun vs H Q _ => ∃ (v : V) (k : Kd), vs = [v] ∧ Of K H v k ∧ Q (.bl (decide (k = .int))) H
theorem ca_is_integer (T : Txt w K mg) : Ca P w K mg base 1 "is_integer" (spInteger K) := by
  refine ca_of (N := ["value"]) (ps := ["value"]) T.f_is_integer T.g_is_integer ⟨rfl, rfl, rfl, by decide +kernel, rfl, by decide +kernel, by decide +kernel⟩ (fun _ _ _ _ _ _ us hl => match us, hl with | [_], _ => rfl)
    (fun vs H Q E h => by obtain ⟨v, k, rfl, hk, q⟩ := h; rfl) (fun cdv A outer s H vs Q E hr h => ?_)
  have nd : (["value"] : List Str).Nodup := by decide +kernel
  obtain ⟨v, k, rfl, hk, q⟩ := h
  refine ⟨_, pss_one (ps_ret (pe_and (pe_is .int T.b_isinstance (pv 0) T.b_int boot_int) (pe_one (pe_not (pe_is .bool T.b_isinstance (pv 0) T.b_bool boot_bool))))), ?_⟩
  refine ⟨_, rfl, _, _, rfl, hk, _, rfl, ?_⟩
  cases k <;> first | exact iteF q | exact iteT ⟨_, rfl, _, _, rfl, hk, _, rfl, q⟩
def spWithin : Sp := fun vs H Q _ => ∃ (i lo hi : Int), vs = [.int i, .int lo, .int hi] ∧ Q (.bl (decide (lo ≤ i) && decide (i ≤ hi))) H
theorem ca_is_within (T : Txt w K mg) : Ca P w K mg base 2 "is_within" (spWithin) := by
  refine ca_of (N := ["value", "least", "greatest"]) (ps := ["value", "least", "greatest"]) T.f_is_within T.g_is_within ⟨rfl, rfl, rfl, by decide +kernel, rfl, by decide +kernel, by decide +kernel⟩ (fun _ _ _ _ _ _ us hl => match us, hl with | [_, _, _], _ => rfl)
    (fun vs H Q E h => by obtain ⟨i, lo, hi, rfl, q⟩ := h; rfl) (fun cdv A outer s H vs Q E hr h => ?_)
  have nd : (["value", "least", "greatest"] : List Str).Nodup := by decide +kernel
  obtain ⟨i, lo, hi, rfl, q⟩ := h
  refine ⟨_, pss_one (ps_ret (pe_and (pe_ca (ca_is_integer T) hr (pa_cons (pv 0) pa_nil)) (pe_one (pe_chain op_le op_le (pv 1) (pv 0) (pv 2))))), ?_⟩
  refine ⟨_, rfl, _, _, rfl, .int i, _, rfl, iteT ?_⟩
  refine ⟨_, rfl, _, rfl, _, _, rfl, rfl, _, rfl, ?_⟩
  by_cases c : lo ≤ i
  · rw [decide_eq_true c] at q ⊢
    exact iteT ⟨_, rfl, _, _, rfl, rfl, q⟩
  · rw [decide_eq_false c] at q ⊢
    exact iteF q
/-- within its bounds -/
theorem within_t {i lo hi : Int} (h : lo ≤ i ∧ i ≤ hi) : (decide (lo ≤ i) && decide (i ≤ hi)) = true := by simp [h.1, h.2]
def spTuple (K : PySem.W.Frag) : Sp := fun vs H Q _ => ∃ (a : Addr) (xs : List V) (n : Int), vs = [.ref a, .int n] ∧ SqT K H a xs ∧ Q (.bl (decide ((xs.length : Int) = n))) H
theorem ca_is_tuple (T : Txt w K mg) : Ca P w K mg base 1 "is_tuple" (spTuple K) := by
  refine ca_of (N := ["value", "length"]) (ps := ["value", "length"]) T.f_is_tuple T.g_is_tuple ⟨rfl, rfl, rfl, by decide +kernel, rfl, by decide +kernel, by decide +kernel⟩ (fun _ _ _ _ _ _ us hl => match us, hl with | [_, _], _ => rfl)
    (fun vs H Q E h => by obtain ⟨a, xs, n, rfl, hs, q⟩ := h; rfl) (fun cdv A outer s H vs Q E hr h => ?_)
  have nd : (["value", "length"] : List Str).Nodup := by decide +kernel
  obtain ⟨a, xs, n, rfl, hs, q⟩ := h
  refine ⟨_, pss_one (ps_ret (pe_and (pe_is .tuple T.b_isinstance (pv 0) T.b_tuple boot_tuple) (pe_one (pe_cmpR op_eq (pe_callB call_len_seq (by rfl) T.b_len PySem.boot_len (pa_cons (pv 0) pa_nil)) (pv 1) (nomark _))))), ?_⟩
  refine ⟨_, rfl, _, _, rfl, .tuple hs, _, rfl, iteT ?_⟩
  refine ⟨_, rfl, _, _, rfl, .inr hs, _, rfl, rfl, ?_⟩
  rw [show (decide (V.int (xs.length : Int) = V.int n)) = decide ((xs.length : Int) = n) from by simp]
  exact q
/-- hs is a state of cells of the sizes ss -/
def StateOk (ss hs : List Int) : Prop := ss.length = hs.length ∧ ∀ (i : Nat) (s h : Int), ss[i]? = some s → hs[i]? = some h → 0 ≤ h ∧ h < s
theorem get_map {l : List Int} {i : Nat} {x : V} (h : (l.map V.int)[i]? = some x) : ∃ z, l[i]? = some z ∧ x = .int z := by
  rw [List.getElem?_map] at h
  cases e : l[i]? with
  | none => rw [e] at h; cases h
  | some z => rw [e] at h; exact ⟨z, rfl, (Option.some.inj h).symm⟩
def spState (K : PySem.W.Frag) : Sp := fun vs H Q _ => ∃ (a b : Addr) (ss hs : List Int), vs = [.ref a, .ref b] ∧ SqT K H a (ss.map .int) ∧ SqT K H b (hs.map .int) ∧ StateOk ss hs ∧ ∀ H', Same H H' → Q (.bl true) H'
theorem ca_is_state (T : Txt w K mg) : Ca P w K mg base 3 "is_state" (spState K) := by
  refine ca_of (N := ["sizes", "value", "size", "held"]) (ps := ["sizes", "value"]) T.f_is_state T.g_is_state ⟨rfl, rfl, rfl, by decide +kernel, rfl, by decide +kernel, by decide +kernel⟩ (fun _ _ _ _ _ _ us hl => match us, hl with | [_, _], _ => rfl)
    (fun vs H Q E h => by obtain ⟨a, b, ss, hs, rfl, ha, hb, ok, q⟩ := h; rfl) (fun cdv A outer s H vs Q E hr h => ?_)
  have nd : (["sizes", "value", "size", "held"] : List Str).Nodup := by decide +kernel
  obtain ⟨a, b, ss, hs, rfl, ha, hb, ok, q⟩ := h
  refine ⟨_, pss_cons (ps_if (pt_not (pt_val (pe_ca (ca_is_tuple T) hr (pa_cons (pv 1) (pa_cons (pe_callB call_len_seq (by rfl) T.b_len PySem.boot_len (pa_cons (pv 0) pa_nil)) pa_nil))))) (pss_one (ps_ret pe_bl)) pss_nil)
    (pss_cons (ps_for PassesOwn.never rfl (RZ.pi_zipA (by rfl) T.b_zip (pa_cons (pv 0) (pa_cons (pv 1) pa_nil))) (pg_tup rfl (pgs_cons (pg_name (i := 2) nd rfl (.inl rfl)) (pgs_cons (pg_name (i := 3) nd rfl (.inl rfl)) pgs_nil)))
      (pss_one (ps_if (pt_not (pt_val (pe_ca (ca_is_within T) hr (pa_cons (pv 3) (pa_cons pe_int (pa_cons (pe_op op_sub (pv 2) pe_int) pa_nil)))))) (pss_one (ps_ret pe_bl)) pss_nil)))
    (pss_one (ps_ret pe_bl))), ?_⟩
  refine ⟨_, rfl, _, rfl, _, _, rfl, .inr ha, b, _, _, rfl, hb, _, rfl, ?_⟩
  rw [List.length_map, List.length_map, ok.1, decide_eq_true rfl]
  refine iteF ⟨_, rfl, _, rfl, a, b, _, _, rfl, .inr ⟨ha, hb, RZ.for_zipT (xs := ss.map V.int) (ys := hs.map V.int) (by simp [ok.1]) (fun i σ H' => ∃ x y, σ = [some (.ref a), some (.ref b), x, y] ∧ Same H H') ⟨none, none, rfl, Same.refl H⟩ (fun i σ H' ⟨_, _, _, s⟩ => ⟨same_t s ha, same_t s hb⟩) ?_ ?_⟩⟩
  · rintro i x y t σ H' hx hy ⟨u, v, rfl, s⟩ ht
    obtain ⟨z, hz, rfl⟩ := get_map hx
    obtain ⟨z', hz', rfl⟩ := get_map hy
    have o := ok.2 i z z' hz hz'
    refine ⟨t, _, rfl, SqT.of upd_same, rfl, _, _, rfl, _, _, rfl, rfl, ?_⟩
    refine ⟨_, rfl, _, rfl, _, _, rfl, rfl, z', 0, z - 1, rfl, _, rfl, ?_⟩
    rw [within_t ⟨o.1, by omega⟩]
    exact iteF ⟨_, _, rfl, s.trans (same_new ht)⟩
  · rintro σ H' ⟨_, _, rfl, s⟩
    exact q H' s
end

end M

set_option Elab.async false
set_option linter.all false
set_option maxRecDepth 100000
set_option maxHeartbeats 2000000
namespace M
open PySem PySem.Spec PyProof.Rows L2

/-! ### what bodies, codes and vaults are -/
inductive Exp where
  | num (n : Int) | reg (r : Str) | op (s : Str) (a b : Exp)
def Exp.d : Exp → PyData
  | .num n => .int n
  | .reg r => .str r
  | .op s a b => .tuple [.str s, a.d, b.d]
inductive Row where
  | read (r : Str) (c : Int) | set (c : Int) (e : Exp) | swap (r : Str) (c : Int) (e f : Exp) | keep (r : Str) (e : Exp) | coin (r : Str)
  | iff (e : Exp) (a b : List Row) | times (e : Exp) (a : List Row) | ans (e : Exp)
mutual
def Row.d : Row → PyData
  | .read r c => .tuple [.str "read", .str r, .int c]
  | .set c e => .tuple [.str "set", .int c, e.d]
  | .swap r c e f => .tuple [.str "swap", .str r, .int c, e.d, f.d]
  | .keep r e => .tuple [.str "keep", .str r, e.d]
  | .coin r => .tuple [.str "coin", .str r]
  | .iff e a b => .tuple [.str "if", e.d, .tuple (rowsD a), .tuple (rowsD b)]
  | .times e a => .tuple [.str "times", e.d, .tuple (rowsD a)]
  | .ans e => .tuple [.str "answer", e.d]
def rowsD : List Row → List PyData
  | [] => []
  | r :: rs => r.d :: rowsD rs
end
/-- a row of a code -/
inductive FR where
  | row (r : Row) | unless (e : Exp) (p : Nat) | on (p : Nat) | rounds (e : Exp) | round (p : Nat) | hole
def FR.d : FR → PyData
  | .row r => r.d
  | .unless e p => .tuple [.str "unless", e.d, .int p]
  | .on p => .tuple [.str "on", .int p]
  | .rounds e => .tuple [.str "rounds", e.d]
  | .round p => .tuple [.str "round", .int p]
  | .hole => .tuple []
mutual
def putRow : Row → List FR → List FR
  | .iff e a b, c =>
    let c1 := putRows a (c ++ [FR.hole])
    let c2 := putRows b ((c1 ++ [FR.hole]).set c.length (FR.unless e (c1.length + 1)))
    c2.set c1.length (FR.on c2.length)
  | .times e a, c =>
    let c1 := putRows a (c ++ [FR.rounds e, FR.hole])
    (c1 ++ [FR.on (c.length + 1)]).set (c.length + 1) (FR.round (c1.length + 1))
  | .read r k, c => c ++ [.row (.read r k)]
  | .set k e, c => c ++ [.row (.set k e)]
  | .swap r k e f, c => c ++ [.row (.swap r k e f)]
  | .keep r e, c => c ++ [.row (.keep r e)]
  | .coin r, c => c ++ [.row (.coin r)]
  | .ans e, c => c ++ [.row (.ans e)]
def putRows : List Row → List FR → List FR
  | [], c => c
  | r :: rs, c => putRows rs (putRow r c)
end
def codeOf (rows : List Row) : List FR := putRows rows [] ++ [.row (.ans (.num 0))]
structure Vlt where
  cells : List (Int × Int)
  deeds : List (Str × Int × List Row)
def cellD (c : Int × Int) : PyData := .tuple [.int c.1, .int c.2]
def deedD (d : Str × Int × List Row) : PyData := .tuple [.str d.1, .int d.2.1, .tuple (rowsD d.2.2)]
def Vlt.calls (v : Vlt) : List (Str × Int) := v.deeds.flatMap fun d => (List.range d.2.1.toNat).map fun (j : Nat) => (d.1, (j : Int))
def codeD (rows : List Row) : PyData := .tuple ((codeOf rows).map FR.d)
/-- what the attributes of a vault hold -/
def vflds (a d c : Addr) (b : Bool) : List (Str × V) := putF "_coins" (.bl b) (putF "_codes" (.ref c) (putF "_deeds" (.ref d) (putF "_cells" (.ref a) [])))
theorem v1 : ¬ (("_cells" : Str) = "_deeds") := by decide +kernel
theorem v2 : ¬ (("_cells" : Str) = "_codes") := by decide +kernel
theorem v3 : ¬ (("_cells" : Str) = "_coins") := by decide +kernel
theorem v4 : ¬ (("_deeds" : Str) = "_codes") := by decide +kernel
theorem v5 : ¬ (("_deeds" : Str) = "_coins") := by decide +kernel
theorem v6 : ¬ (("_codes" : Str) = "_coins") := by decide +kernel
theorem vf_cells (a d c : Addr) (b : Bool) : (vflds a d c b).lookup ("_cells" : Str) = some (.ref a) := by
  unfold vflds
  rw [lookup_putF, if_neg v3, lookup_putF, if_neg v2, lookup_putF, if_neg v1, lookup_putF, if_pos rfl]
theorem vf_deeds (a d c : Addr) (b : Bool) : (vflds a d c b).lookup ("_deeds" : Str) = some (.ref d) := by
  unfold vflds
  rw [lookup_putF, if_neg v5, lookup_putF, if_neg v4, lookup_putF, if_pos rfl]
theorem vf_codes (a d c : Addr) (b : Bool) : (vflds a d c b).lookup ("_codes" : Str) = some (.ref c) := by
  unfold vflds
  rw [lookup_putF, if_neg v6, lookup_putF, if_pos rfl]
theorem vf_coins (a d c : Addr) (b : Bool) : (vflds a d c b).lookup ("_coins" : Str) = some (.bl b) := by
  unfold vflds
  rw [lookup_putF, if_pos rfl]
theorem vf_no (a d c : Addr) (b : Bool) {m : Str} (h1 : ¬ m = "_cells") (h2 : ¬ m = "_deeds") (h3 : ¬ m = "_codes") (h4 : ¬ m = "_coins") : (vflds a d c b).lookup m = none := by
  unfold vflds
  rw [lookup_putF, if_neg h4, lookup_putF, if_neg h3, lookup_putF, if_neg h2, lookup_putF, if_neg h1]
  rfl
/-- the codes by the names of the deeds -/
def CodesR (K : PySem.W.Frag) (H : Hp) : List (Key × V) → List (Str × Int × List Row) → Prop
  | [], [] => True
  | (k, v) :: r, d :: ds => k = Sum.inr d.1 ∧ Dp K H v (codeD d.2.2) ∧ CodesR K H r ds
  | _, _ => False
/-- a vault stands at p -/
structure VaultAt (K : PySem.W.Frag) (H : Hp) (p : Addr) (v : Vlt) : Prop where
  ob : ∃ (dx a d c : Addr) (b : Bool) (kvs : List (Key × V)), H p = some (.ins (He.ga K "Vault") dx (vflds a d c b)) ∧ Dp K H (.ref a) (.tuple (v.cells.map cellD)) ∧ Dp K H (.ref d) (.tuple (v.deeds.map deedD)) ∧ H c = some (.dK kvs) ∧ CodesR K H kvs v.deeds
/-- the bounds of a vault -/
structure VOk (v : Vlt) : Prop where
  c1 : v.cells.length ≤ 6
  d1 : v.deeds.length ≤ 8
  ch : ∀ d ∈ v.deeds, 1 ≤ d.2.1 ∧ d.2.1 ≤ 9
  nd : (v.deeds.map (·.1)).Nodup
theorem codes_same {K : PySem.W.Frag} {H H' : Hp} (e : Same H H') : ∀ {kvs : List (Key × V)} {ds : List (Str × Int × List Row)}, CodesR K H kvs ds → CodesR K H' kvs ds
  | [], [], _ => trivial
  | (_, _) :: _, _ :: _, h => ⟨h.1, dp_same e h.2.1, codes_same e h.2.2⟩
  | [], _ :: _, h => h.elim
  | _ :: _, [], h => h.elim
theorem VaultAt.same {K : PySem.W.Frag} {H H' : Hp} {p : Addr} {v : Vlt} (e : Same H H') (h : VaultAt K H p v) : VaultAt K H' p v := by
  obtain ⟨dx, a, d, c, b, kvs, h1, h2, h3, h4, h5⟩ := h.ob
  exact ⟨dx, a, d, c, b, kvs, e _ _ h1, dp_same e h2, dp_same e h3, e _ _ h4, codes_same e h5⟩
/-! ### data taken apart -/
section
variable {K : PySem.W.Frag} {H : Hp}
theorem dp_tup {v : V} {ds : List PyData} (h : Dp K H v (.tuple ds)) : ∃ (a : Addr) (xs : List V), v = .ref a ∧ SqT K H a xs ∧ DpAll K H xs ds := by
  cases h with
  | tup h r => exact ⟨_, _, rfl, h, r⟩
theorem dp_lst {v : V} {ds : List PyData} (h : Dp K H v (.list ds)) : ∃ (a : Addr) (xs : List V), v = .ref a ∧ SqL K H a xs ∧ DpAll K H xs ds := by
  cases h with
  | lst h r => exact ⟨_, _, rfl, h, r⟩
theorem dp_int {v : V} {i : Int} (h : Dp K H v (.int i)) : v = .int i := by
  cases h
  rfl
theorem dp_str {v : V} {i : Str} (h : Dp K H v (.str i)) : v = .str i := by
  cases h
  rfl
theorem dps_len : ∀ {vs : List V} {ds : List PyData}, DpAll K H vs ds → vs.length = ds.length
  | _, _, .nil => rfl
  | _, _, .cons _ r => congrArg (· + 1) (dps_len r)
theorem dps_get : ∀ {vs : List V} {ds : List PyData} {i : Nat} {v : V}, DpAll K H vs ds → vs[i]? = some v → ∃ d, ds[i]? = some d ∧ Dp K H v d
  | _, _, i, v, .nil, h => by simp at h
  | _, _, 0, v, .cons h r, e => by
    cases (Option.some.inj e)
    exact ⟨_, rfl, h⟩
  | _, _, i + 1, v, .cons h r, e => dps_get (i := i) r e
theorem dps_at : ∀ {vs : List V} {ds : List PyData} {i : Nat} {d : PyData}, DpAll K H vs ds → ds[i]? = some d → ∃ v, vs[i]? = some v ∧ Dp K H v d
  | _, _, i, v, .nil, h => by simp at h
  | _, _, 0, v, .cons h r, e => by
    cases (Option.some.inj e)
    exact ⟨_, rfl, h⟩
  | _, _, i + 1, v, .cons h r, e => dps_at (i := i) r e
theorem dps_app : ∀ {vs ws : List V} {ds es : List PyData}, DpAll K H vs ds → DpAll K H ws es → DpAll K H (vs ++ ws) (ds ++ es)
  | _, _, _, _, .nil, r => r
  | _, _, _, _, .cons h t, r => .cons h (dps_app t r)
theorem dps_set : ∀ {vs : List V} {ds : List PyData} {i : Nat} {v : V} {d : PyData}, DpAll K H vs ds → Dp K H v d → DpAll K H (vs.set i v) (ds.set i d)
  | _, _, _, _, _, .nil, _ => .nil
  | _, _, 0, _, _, .cons _ r, z => .cons z r
  | _, _, i + 1, _, _, .cons h r, z => .cons h (dps_set (i := i) r z)
theorem dp2 {v : V} {d e : PyData} (h : Dp K H v (.tuple [d, e])) : ∃ (a : Addr) (x y : V), v = .ref a ∧ SqT K H a [x, y] ∧ Dp K H x d ∧ Dp K H y e := by
  obtain ⟨a, xs, rfl, h, r⟩ := dp_tup h
  cases r with | cons h1 r => cases r with | cons h2 r => cases r with | nil => exact ⟨a, _, _, rfl, h, h1, h2⟩
theorem dp3 {v : V} {d e f : PyData} (h : Dp K H v (.tuple [d, e, f])) : ∃ (a : Addr) (x y z : V), v = .ref a ∧ SqT K H a [x, y, z] ∧ Dp K H x d ∧ Dp K H y e ∧ Dp K H z f := by
  obtain ⟨a, xs, rfl, h, r⟩ := dp_tup h
  cases r with | cons h1 r => cases r with | cons h2 r => cases r with | cons h3 r => cases r with | nil => exact ⟨a, _, _, _, rfl, h, h1, h2, h3⟩
theorem dps_ints : ∀ {vs : List V} {is : List Int}, DpAll K H vs (is.map PyData.int) → vs = is.map V.int
  | _, [], .nil => rfl
  | _, i :: is, .cons h r => by
    rw [dp_int h, dps_ints r]
    rfl
theorem ints_dps : ∀ {is : List Int}, DpAll K H (is.map V.int) (is.map PyData.int)
  | [] => .nil
  | i :: is => .cons (.int i) ints_dps
end
/-! ### what a list that grows leaves as it was -/
/-- all but what stands at D is as it was -/
def But (D : Addr) (H H' : Hp) : Prop := ∀ b o, b ≠ D → H b = some o → H' b = some o
theorem But.upd {D : Addr} {H : Hp} {o : HO} : But D H (upd H D o) := fun b u hb e => by
  rw [upd_ne hb]
  exact e
theorem same_but {D : Addr} {H H' : Hp} (s : Same H H') : But D H H' := fun b o _ e => s b o e
theorem But.trans {D : Addr} {H H1 H2 : Hp} (s : But D H H1) (t : But D H1 H2) : But D H H2 := fun b o hb e => t b o hb (s b o hb e)
/-- no list within -/
inductive NoL : PyData → Prop where
  | non : NoL .none
  | bool (b : Bool) : NoL (.bool b)
  | int (i : Int) : NoL (.int i)
  | str (x : Str) : NoL (.str x)
  | tup {ds : List PyData} (h : ∀ d ∈ ds, NoL d) : NoL (.tuple ds)
/-- what stands at D may change -/
def Ch (H : Hp) (D : Addr) : Prop := (∀ xs, H D ≠ some (.tup xs)) ∧ ∀ o u, H D ≠ some (.frz o u)
theorem Ch.lst {H : Hp} {D : Addr} {l : List V} (h : H D = some (.lst l)) : Ch H D := ⟨fun _ e => (by rw [h] at e; cases e), fun _ _ e => (by rw [h] at e; cases e)⟩
theorem Ch.dK {H : Hp} {D : Addr} {l : List (Key × V)} (h : H D = some (.dK l)) : Ch H D := ⟨fun _ e => (by rw [h] at e; cases e), fun _ _ e => (by rw [h] at e; cases e)⟩
theorem Ch.ins {H : Hp} {D C dx : Addr} {l : List (Str × V)} (h : H D = some (.ins C dx l)) : Ch H D := ⟨fun _ e => (by rw [h] at e; cases e), fun _ _ e => (by rw [h] at e; cases e)⟩
theorem Ch.new {H : Hp} {D : Addr} (h : H D = none) : Ch H D := ⟨fun _ e => (by rw [h] at e; cases e), fun _ _ e => (by rw [h] at e; cases e)⟩
section
variable {K : PySem.W.Frag} {H H' : Hp} {D : Addr}
theorem sqT_but (hD : Ch H D) (s : But D H H') {a : Addr} {xs : List V} (h : SqT K H a xs) : SqT K H' a xs := by
  rcases h with (h | ⟨o, h⟩) | h
  · exact .inl (.inl (s _ _ (fun e => hD.1 _ (e ▸ h)) h))
  · exact .inl (.inr ⟨o, s _ _ (fun e => hD.2 _ _ (e ▸ h)) h⟩)
  · exact .inr h
mutual
theorem dp_but (hD : Ch H D) (s : But D H H') : ∀ {v : V} {d : PyData}, Dp K H v d → NoL d → Dp K H' v d
  | _, _, .non, _ => .non
  | _, _, .bl b, _ => .bl b
  | _, _, .int i, _ => .int i
  | _, _, .str x, _ => .str x
  | _, _, .lst _ _, n => nomatch n
  | _, _, .tup h r, n => .tup (sqT_but hD s h) (dps_but hD s r (by cases n with | tup h => exact h))
theorem dps_but (hD : Ch H D) (s : But D H H') : ∀ {vs : List V} {ds : List PyData}, DpAll K H vs ds → (∀ d ∈ ds, NoL d) → DpAll K H' vs ds
  | _, _, .nil, _ => .nil
  | _, _, .cons h r, n => .cons (dp_but hD s h (n _ List.mem_cons_self)) (dps_but hD s r fun d hd => n d (List.mem_cons_of_mem _ hd))
end
end
/-! ### comprehensions and loops that leave all that was as it was -/
section
variable {J : It} {n : Nat} {G : Hp → Prop} {Y : Nat → Hp → V → Hp → Prop}
/-- a list comprehension: its i-th item is R i -/
theorem lc_out (w : Walk J n G Y) {g : TG} {te : TE} {vs : List Nat} {σ : L2.St} {H1 : Hp} {D : Addr} {Qd : Hp → Prop} (hD : H1 D = none) (hn : n ≤ 100000) (R : Nat → V → Hp → Prop) (hR : ∀ i y H H', Ch H D → But D H H' → R i y H → R i y H')
    (hG : ∀ H, Same H1 H → G H)
    (hs : ∀ (i : Nat) (x : V) (H H' : Hp) (N : VK) (F : Hp → Prop), i < n → Same H1 H → Y i H x H' → (∀ y H4, Same H H4 → R i y H4 → N y H4) → g x (wipe σ vs) H' fun σ2 H2 => wipe σ2 vs = wipe σ vs ∧ if true = true then te σ2 H2 N else F H2)
    (hd : ∀ H ys, Same H1 H → H D = some (.lst ys) → ys.length = n → (∀ i y, ys[i]? = some y → R i y H) → Qd H) :
    ∃ W : Nat → Nat → Hp → Prop, (∃ m, W 0 m (upd H1 D (.lst []))) ∧ ∀ i m H, W i m H →
      (J.stop i H ∧ Qd H) ∨ (J.go i H ∧ ∃ Nx : Hp → Prop, (∀ H', Nx H' → ∃ m', m' < m ∧ W (i + 1) m' H') ∧ ∀ x H', J.yld i H x H' → g x (wipe σ vs) H' fun σ2 H2 => wipe σ2 vs = wipe σ vs ∧ tYes σ2 H2 fun b H3 =>
        if b = true then te σ2 H3 fun y H4 => ∃ acc, H4 D = some (.lst acc) ∧ acc.length < sizeLine ∧ Nx (upd H4 D (.lst (acc ++ [y]))) else Nx H3) := by
  let Pv : Nat → Hp → Prop := fun i H => ∃ ys, Same H1 H ∧ H D = some (.lst ys) ∧ ys.length = i ∧ ∀ j y, ys[j]? = some y → R j y H
  refine lc_it w Pv ⟨[], same_new hD, upd_same, rfl, fun j y e => by simp at e⟩ (fun i H _ ⟨_, s, _⟩ => hG H s) (fun i x H H' hi ⟨ys, s, eD, el, hr⟩ y => ?_) (fun H ⟨ys, s, eD, el, hr⟩ => hd H ys s eD el hr)
  refine hs i x H H' (fun y H4 => ∃ acc, H4 D = some (.lst acc) ∧ acc.length < sizeLine ∧ Pv (i + 1) (upd H4 D (.lst (acc ++ [y])))) (fun H3 => Pv (i + 1) H3) hi s y fun z H4 s4 rz => ⟨ys, s4 _ _ eD, by rw [sizeLine_eq]; omega, ys ++ [z], fun b o e => ?_, upd_same, by simp [el], fun j u e => ?_⟩
  · rw [upd_ne (ne_of_none e hD)]
    exact s4 b o (s b o e)
  · have bt : But D H (upd H4 D (.lst (ys ++ [z]))) := (same_but s4 (D := D)).trans But.upd
    by_cases hj : j < ys.length
    · rw [List.getElem?_append_left hj] at e
      exact hR j u H _ (.lst eD) bt (hr j u e)
    · rw [List.getElem?_append_right (by omega)] at e
      have e0 : j - ys.length = 0 := by
        cases q : j - ys.length with
        | zero => rfl
        | succ m => rw [q] at e; simp at e
      rw [e0] at e
      cases (Option.some.inj e)
      have ej : j = i := by omega
      subst ej
      exact hR _ _ H4 _ (.lst (s4 _ _ eD)) But.upd rz
end

end M

set_option Elab.async false
set_option linter.all false
set_option maxRecDepth 100000
set_option maxHeartbeats 2000000
namespace M
open PySem PySem.Spec PyProof.Rows L2

theorem map_of {α : Type} {cs : List α} {f : α → V} {ys : List V} (hl : ys.length = cs.length) (h : ∀ (i : Nat) (y : V), ys[i]? = some y → ∃ c, cs[i]? = some c ∧ y = f c) : ys = cs.map f := by
  refine List.ext_getElem? fun i => ?_
  rw [List.getElem?_map]
  cases e : ys[i]? with
  | some y =>
    obtain ⟨c, hc, rfl⟩ := h i y e
    rw [hc]
    rfl
  | none =>
    have q : cs[i]? = none := by
      rw [List.getElem?_eq_none_iff] at e ⊢
      omega
    rw [q]
    rfl
theorem get_mapA {α β : Type} {l : List α} {f : α → β} {i : Nat} {x : β} (h : (l.map f)[i]? = some x) : ∃ z, l[i]? = some z ∧ x = f z := by
  rw [List.getElem?_map] at h
  cases e : l[i]? with
  | none => rw [e] at h; cases h
  | some z => rw [e] at h; exact ⟨z, rfl, (Option.some.inj h).symm⟩
section
variable {P : Program} {w : World} {K : PySem.W.Frag} {mg : Str → Option Value} {base : Heap}
/-! ### pastless.vaults: what a vault tells -/
def spSizes (K : PySem.W.Frag) (f : Int × Int → Int) : Sp := fun vs H Q _ => ∃ (p : Addr) (v : Vlt), vs = [.ref p] ∧ VaultAt K H p v ∧ v.cells.length ≤ 6 ∧ ∀ a H', Same H H' → H' a = some (.tup ((v.cells.map f).map V.int)) → Q (.ref a) H'
theorem me_Vault_sizes (T : Txt w K mg) : Me P w K mg base 1 (He.ga K "Vault") "sizes" (spSizes K (·.1)) := by
  refine me_of (N := ["self", "size", "_"]) (ps := ["self"]) T.f_Vault_sizes T.c_Vault T.m_Vault_sizes ⟨rfl, rfl, rfl, by decide +kernel, rfl, by decide +kernel, by decide +kernel⟩ (fun _ _ _ _ _ _ us hl => match us, hl with | [_], _ => rfl)
    (fun vs H Q E h => by obtain ⟨p, v, rfl, hv, hl, q⟩ := h; rfl) (fun cdv A outer s H vs Q E hr h => ?_)
  have nd : (["self", "size", "_"] : List Str).Nodup := by decide +kernel
  obtain ⟨p, v, rfl, hv, hl, q⟩ := h
  obtain ⟨dx, a, d, c, b, kvs, h1, h2, h3, h4, h5⟩ := hv.ob
  obtain ⟨a, xs, ea, hx, hxs⟩ := dp_tup h2
  cases ea
  refine ⟨_, pss_one (ps_ret (pe_tupleOf (by rfl) T.b_tuple (pe_lc (own := [("size", 1), ("_", 2)]) (tt := tYes) rfl nd (pi_tup (pe_fld (pv 0) rfl)) (blkOk_by (N := ["self", "size", "_"]) (sc := defScope s_Vault_sizes) (by decide +kernel))
    (fun _ _ _ _ _ => pg_two K 1 2 rfl rfl nd rfl rfl (.inl rfl) (.inl rfl) (.inr rfl) (.inr rfl)) (fun _ _ _ _ _ => pts_nil) (fun _ _ _ _ _ => pv 1)))), ?_⟩
  have el : xs.length = v.cells.length := by rw [dps_len hxs, List.length_map]
  refine ⟨_, rfl, p, _, _, _, _, rfl, h1, T.c_Vault, T.n_Vault_cells, vf_cells .., a, rfl, ⟨_, hx⟩, fun D hD => ?_⟩
  refine lc_out (n := xs.length) walk_tup hD (by omega) (fun i y H => ∃ c, v.cells[i]? = some c ∧ y = .int c.1) (fun _ _ _ _ _ _ h => h) (fun H' s => same_t s hx) (fun i x H' H2 N F hi s y k => ?_) (fun H' ys s hD' hl' hr => ?_)
  · obtain ⟨rfl, ex⟩ := y
    obtain ⟨dd, ed, hdd⟩ := dps_get hxs ex
    obtain ⟨cc, ec, rfl⟩ := get_mapA ed
    obtain ⟨t, x1, x2, rfl, ht, e1, e2⟩ := dp2 (dp_same s hdd)
    cases dp_int e1
    refine ⟨t, _, rfl, ht, rfl, _, _, rfl, _, _, rfl, rfl, rfl, iteT ⟨_, rfl, k _ _ (Same.refl _) ⟨cc, ec, rfl⟩⟩⟩
  · have em : ys = (v.cells.map (·.1)).map V.int := by
      rw [List.map_map]
      exact map_of (by omega) fun i y e => by
        obtain ⟨c, h1, h2⟩ := hr i y e
        exact ⟨c, h1, h2⟩
    refine .inl ⟨D, ys, rfl, SqL.of hD', fun t ht => ?_⟩
    rw [em]
    exact q t _ (s.trans (same_new ht)) upd_same
theorem me_Vault_first (T : Txt w K mg) : Me P w K mg base 1 (He.ga K "Vault") "first" (spSizes K (·.2)) := by
  refine me_of (N := ["self", "_", "held"]) (ps := ["self"]) T.f_Vault_first T.c_Vault T.m_Vault_first ⟨rfl, rfl, rfl, by decide +kernel, rfl, by decide +kernel, by decide +kernel⟩ (fun _ _ _ _ _ _ us hl => match us, hl with | [_], _ => rfl)
    (fun vs H Q E h => by obtain ⟨p, v, rfl, hv, hl, q⟩ := h; rfl) (fun cdv A outer s H vs Q E hr h => ?_)
  have nd : (["self", "_", "held"] : List Str).Nodup := by decide +kernel
  obtain ⟨p, v, rfl, hv, hl, q⟩ := h
  obtain ⟨dx, a, d, c, b, kvs, h1, h2, h3, h4, h5⟩ := hv.ob
  obtain ⟨a, xs, ea, hx, hxs⟩ := dp_tup h2
  cases ea
  refine ⟨_, pss_one (ps_ret (pe_tupleOf (by rfl) T.b_tuple (pe_lc (own := [("_", 1), ("held", 2)]) (tt := tYes) rfl nd (pi_tup (pe_fld (pv 0) rfl)) (blkOk_by (N := ["self", "_", "held"]) (sc := defScope s_Vault_first) (by decide +kernel))
    (fun _ _ _ _ _ => pg_two K 1 2 rfl rfl nd rfl rfl (.inl rfl) (.inl rfl) (.inr rfl) (.inr rfl)) (fun _ _ _ _ _ => pts_nil) (fun _ _ _ _ _ => pv 2)))), ?_⟩
  have el : xs.length = v.cells.length := by rw [dps_len hxs, List.length_map]
  refine ⟨_, rfl, p, _, _, _, _, rfl, h1, T.c_Vault, T.n_Vault_cells, vf_cells .., a, rfl, ⟨_, hx⟩, fun D hD => ?_⟩
  refine lc_out (n := xs.length) walk_tup hD (by omega) (fun i y H => ∃ c, v.cells[i]? = some c ∧ y = .int c.2) (fun _ _ _ _ _ _ h => h) (fun H' s => same_t s hx) (fun i x H' H2 N F hi s y k => ?_) (fun H' ys s hD' hl' hr => ?_)
  · obtain ⟨rfl, ex⟩ := y
    obtain ⟨dd, ed, hdd⟩ := dps_get hxs ex
    obtain ⟨cc, ec, rfl⟩ := get_mapA ed
    obtain ⟨t, x1, x2, rfl, ht, e1, e2⟩ := dp2 (dp_same s hdd)
    cases dp_int e2
    refine ⟨t, _, rfl, ht, rfl, _, _, rfl, _, _, rfl, rfl, rfl, iteT ⟨_, rfl, k _ _ (Same.refl _) ⟨cc, ec, rfl⟩⟩⟩
  · have em : ys = (v.cells.map (·.2)).map V.int := by
      rw [List.map_map]
      exact map_of (by omega) fun i y e => by
        obtain ⟨c, h1, h2⟩ := hr i y e
        exact ⟨c, h1, h2⟩
    refine .inl ⟨D, ys, rfl, SqL.of hD', fun t ht => ?_⟩
    rw [em]
    exact q t _ (s.trans (same_new ht)) upd_same
end

end M

set_option Elab.async false
set_option linter.all false
set_option maxRecDepth 100000
set_option maxHeartbeats 2000000
namespace M
open PySem PySem.Spec PyProof.Rows L2

/-! ### any walk: Pv by the turn and the heap -/
section
variable {J : It} {n : Nat} {G : Hp → Prop} {Y : Nat → Hp → V → Hp → Prop}
theorem it_any (w : Walk J n G Y) {B : (Hp → Prop) → V → Hp → Prop} {H1 : Hp} {Qd : Hp → Prop} (Pv : Nat → Hp → Prop) (h0 : Pv 0 H1) (hG : ∀ i H, i ≤ n → Pv i H → G H) (hs : ∀ i x H H', i < n → Pv i H → Y i H x H' → B (Pv (i + 1)) x H')
    (hd : ∀ H, Pv n H → Qd H) : ∃ W : Nat → Nat → Hp → Prop, (∃ m, W 0 m H1) ∧ ∀ i m H, W i m H → (J.stop i H ∧ Qd H) ∨ (J.go i H ∧ ∃ Nx : Hp → Prop, (∀ H', Nx H' → ∃ m', m' < m ∧ W (i + 1) m' H') ∧ ∀ x H', J.yld i H x H' → B Nx x H') := by
  refine ⟨fun i m H => m + i = n ∧ Pv i H, ⟨n, rfl, h0⟩, fun i m H ⟨hm, hp⟩ => ?_⟩
  have hg := hG i H (by omega) hp
  rcases Nat.lt_or_ge i n with hi | hi
  · exact .inr ⟨w.goes i H hi hg, Pv (i + 1), fun H' hp' => ⟨m - 1, by omega, by omega, hp'⟩, fun x H' y => hs i x H H' hi hp (w.yields i H x H' hi hg y)⟩
  · obtain rfl : i = n := by omega
    exact .inl ⟨w.stops H hg, hd H hp⟩
end
/-- the tuples of calls -/
def TupsAt (H : Hp) : List V → List (Str × Int) → Prop
  | [], [] => True
  | y :: ys, c :: cs => (∃ t, y = .ref t ∧ H t = some (.tup [.str c.1, .int c.2])) ∧ TupsAt H ys cs
  | _, _ => False
theorem tups_but {D : Addr} {H H' : Hp} (hD : Ch H D) (s : But D H H') : ∀ {ys : List V} {cs : List (Str × Int)}, TupsAt H ys cs → TupsAt H' ys cs
  | [], [], _ => trivial
  | _ :: _, _ :: _, ⟨⟨t, e, h⟩, r⟩ => ⟨⟨t, e, s t _ (fun z => hD.1 _ (z ▸ h)) h⟩, tups_but hD s r⟩
  | [], _ :: _, h => h.elim
  | _ :: _, [], h => h.elim
theorem tups_same {H H' : Hp} (s : Same H H') : ∀ {ys : List V} {cs : List (Str × Int)}, TupsAt H ys cs → TupsAt H' ys cs
  | [], [], _ => trivial
  | _ :: _, _ :: _, ⟨⟨t, e, h⟩, r⟩ => ⟨⟨t, e, s t _ h⟩, tups_same s r⟩
  | [], _ :: _, h => h.elim
  | _ :: _, [], h => h.elim
theorem tups_len {H : Hp} : ∀ {ys : List V} {cs : List (Str × Int)}, TupsAt H ys cs → ys.length = cs.length
  | [], [], _ => rfl
  | _ :: _, _ :: _, ⟨_, r⟩ => congrArg (· + 1) (tups_len r)
  | [], _ :: _, h => h.elim
  | _ :: _, [], h => h.elim
theorem tups_snoc {H : Hp} {t : Addr} {c : Str × Int} (ht : H t = some (.tup [.str c.1, .int c.2])) : ∀ {ys : List V} {cs : List (Str × Int)}, TupsAt H ys cs → TupsAt H (ys ++ [.ref t]) (cs ++ [c])
  | [], [], _ => ⟨⟨t, rfl, ht⟩, trivial⟩
  | _ :: _, _ :: _, ⟨h, r⟩ => ⟨h, tups_snoc ht r⟩
  | [], _ :: _, h => h.elim
  | _ :: _, [], h => h.elim
theorem tups_get {H : Hp} : ∀ {ys : List V} {cs : List (Str × Int)} {i : Nat} {y : V}, TupsAt H ys cs → ys[i]? = some y → ∃ c t, cs[i]? = some c ∧ y = .ref t ∧ H t = some (.tup [.str c.1, .int c.2])
  | [], [], i, y, _, e => by simp at e
  | _ :: _, c :: _, 0, y, ⟨⟨t, e, h⟩, r⟩, z => by
    cases (Option.some.inj z)
    exact ⟨c, t, rfl, e, h⟩
  | _ :: _, _ :: _, i + 1, y, ⟨h, r⟩, z => tups_get (i := i) r z
  | [], _ :: _, _, _, h, _ => h.elim
  | _ :: _, [], _, _, h, _ => h.elim
theorem take_more {α : Type} {l : List α} {i : Nat} {x : α} (h : l[i]? = some x) : l.take (i + 1) = l.take i ++ [x] := by
  rw [List.take_add_one, h]
  rfl
theorem range_more (j : Nat) : List.range (j + 1) = List.range j ++ [j] := List.range_succ
/-- all but the dict of a name -/
theorem codes_get {K : PySem.W.Frag} {H : Hp} : ∀ {kvs : List (Key × V)} {ds : List (Str × Int × List Row)} {d : Str × Int × List Row}, CodesR K H kvs ds → (ds.map (·.1)).Nodup → d ∈ ds → ∃ v, valV kvs (Sum.inr d.1 : Key) = some v ∧ Dp K H v (codeD d.2.2)
  | [], [], d, _, _, h => by cases h
  | (k, v) :: r, e :: ds, d, h, n, hd => by
    obtain ⟨rfl, hv, hr⟩ := h
    rw [List.map_cons, List.nodup_cons] at n
    by_cases q : e.1 = d.1
    · have : d = e := by
        rcases List.mem_cons.mp hd with z | z
        · exact z
        · exact absurd (q ▸ List.mem_map.mpr ⟨d, z, rfl⟩) n.1
      subst this
      refine ⟨v, ?_, hv⟩
      unfold valV
      rw [List.find?_cons_of_pos (by simp)]
      rfl
    · have hd' : d ∈ ds := by
        rcases List.mem_cons.mp hd with z | z
        · exact absurd (by rw [z]) q
        · exact z
      obtain ⟨u, hu, hw⟩ := codes_get hr n.2 hd'
      refine ⟨u, ?_, hw⟩
      unfold valV at hu ⊢
      rw [List.find?_cons_of_neg (by simp [q])]
      exact hu
  | [], _ :: _, _, h, _, _ => h.elim
  | _ :: _, [], _, h, _, _ => h.elim
/-! ### no lists within -/
theorem Exp.noL : ∀ e : Exp, NoL e.d
  | .num n => .int n
  | .reg r => .str r
  | .op s a b => .tup fun d h => by
    rcases List.mem_cons.mp h with rfl | h
    · exact .str s
    rcases List.mem_cons.mp h with rfl | h
    · exact a.noL
    rcases List.mem_cons.mp h with rfl | h
    · exact b.noL
    cases h
mutual
theorem Row.noL : ∀ r : Row, NoL r.d
  | .read r c => .tup (by intro d h; simp at h; rcases h with rfl | rfl | rfl <;> constructor)
  | .set c e => .tup (by intro d h; simp at h; rcases h with rfl | rfl | rfl <;> first | exact e.noL | constructor)
  | .swap r c e f => .tup (by intro d h; simp at h; rcases h with rfl | rfl | rfl | rfl | rfl <;> first | exact e.noL | exact f.noL | constructor)
  | .keep r e => .tup (by intro d h; simp at h; rcases h with rfl | rfl | rfl <;> first | exact e.noL | constructor)
  | .coin r => .tup (by intro d h; simp at h; rcases h with rfl | rfl <;> constructor)
  | .iff e a b => .tup (by intro d h; simp at h; rcases h with rfl | rfl | rfl | rfl <;> first | exact e.noL | exact .tup (rows_noL a) | exact .tup (rows_noL b) | constructor)
  | .times e a => .tup (by intro d h; simp at h; rcases h with rfl | rfl | rfl <;> first | exact e.noL | exact .tup (rows_noL a) | constructor)
  | .ans e => .tup (by intro d h; simp at h; rcases h with rfl | rfl <;> first | exact e.noL | constructor)
theorem rows_noL : ∀ rs : List Row, ∀ d ∈ rowsD rs, NoL d
  | [], d, h => by cases h
  | r :: rs, d, h => by
    rcases List.mem_cons.mp h with rfl | h
    · exact r.noL
    · exact rows_noL rs d h
end
theorem FR.noL : ∀ r : FR, NoL r.d
  | .row r => r.noL
  | .unless e p => .tup (by intro d h; simp at h; rcases h with rfl | rfl | rfl <;> first | exact e.noL | constructor)
  | .on p => .tup (by intro d h; simp at h; rcases h with rfl | rfl <;> constructor)
  | .rounds e => .tup (by intro d h; simp at h; rcases h with rfl | rfl <;> first | exact e.noL | constructor)
  | .round p => .tup (by intro d h; simp at h; rcases h with rfl | rfl <;> constructor)
  | .hole => .tup (by intro d h; cases h)
theorem code_noL (rs : List Row) : NoL (codeD rs) := .tup fun d h => by
  obtain ⟨r, _, rfl⟩ := List.mem_map.mp h
  exact r.noL
section
variable {P : Program} {w : World} {K : PySem.W.Frag} {mg : Str → Option Value} {base : Heap}
def spCalls (K : PySem.W.Frag) : Sp := fun vs H Q _ => ∃ (p : Addr) (v : Vlt), vs = [.ref p] ∧ VaultAt K H p v ∧ VOk v ∧ ∀ a ys H', Same H H' → H' a = some (.lst ys) → TupsAt H' ys v.calls → Q (.ref a) H'
theorem me_Vault_calls (T : Txt w K mg) : Me P w K mg base 1 (He.ga K "Vault") "calls" (spCalls K) := by
  refine me_of (N := ["self", "name", "choices", "_", "argument"]) (ps := ["self"]) T.f_Vault_calls T.c_Vault T.m_Vault_calls ⟨rfl, rfl, rfl, by decide +kernel, rfl, by decide +kernel, by decide +kernel⟩ (fun _ _ _ _ _ _ us hl => match us, hl with | [_], _ => rfl)
    (fun vs H Q E h => by obtain ⟨p, v, rfl, hv, ok, q⟩ := h; rfl) (fun cdv A outer s H vs Q E hr h => ?_)
  have nd : (["self", "name", "choices", "_", "argument"] : List Str).Nodup := by decide +kernel
  obtain ⟨p, v, rfl, hv, ok, q⟩ := h
  obtain ⟨dx, a, d, c, b, kvs, h1, h2, h3, h4, h5⟩ := hv.ob
  obtain ⟨d, xs, ea, hx, hxs⟩ := dp_tup h3
  cases ea
  refine ⟨_, pss_one (ps_ret (pe_lc2 (own := [("name", 1), ("choices", 2), ("_", 3), ("argument", 4)]) (vs1 := [4]) (tt := tYes) (tt1 := tYes) rfl nd (pi_tup (pe_fld (pv 0) rfl)) (blkOk_by (N := ["self", "name", "choices", "_", "argument"]) (sc := defScope s_Vault_calls) (by decide +kernel)) (by decide)
    (fun _ _ _ _ _ => pg_three K 1 2 3 rfl rfl nd rfl rfl rfl (.inl rfl) (.inl rfl) (.inl rfl) (.inr rfl) (.inr rfl) (.inr rfl)) (fun _ _ _ _ _ => pts_nil) (fun _ _ _ _ _ => pi_range1 rfl T.b_range (pa_cons (pv 2) pa_nil)) (fun _ _ _ _ _ => pg_name (i := 4) nd rfl (.inl rfl)) (fun _ _ _ _ _ => pts_nil)
    (fun _ _ _ _ _ => pe_tup (pa_cons (pv 1) (pa_cons (pv 4) pa_nil))))), ?_⟩
  have el : xs.length = v.deeds.length := by rw [dps_len hxs, List.length_map]
  refine ⟨_, rfl, p, _, _, _, _, rfl, h1, T.c_Vault, T.n_Vault_deeds, vf_deeds .., d, rfl, ⟨_, hx⟩, fun D hD => ?_⟩
  let F : List (Str × Int × List Row) → List (Str × Int) := fun l => l.flatMap fun d => (List.range d.2.1.toNat).map fun (j : Nat) => (d.1, (j : Int))
  have FS : ∀ l d, F (l ++ [d]) = F l ++ (List.range d.2.1.toNat).map fun (j : Nat) => (d.1, (j : Int)) := fun l d => by simp [F]
  have bnd : ∀ l, (∀ d ∈ l, d.2.1 ≤ 9) → (F l).length ≤ 9 * l.length := by
    intro l
    induction l with
    | nil => intro _; simp [F]
    | cons d r ih =>
      intro h
      have e : F (d :: r) = ((List.range d.2.1.toNat).map fun (j : Nat) => (d.1, (j : Int))) ++ F r := by simp [F]
      have h1 := h d List.mem_cons_self
      have h2 := ih fun d hd => h d (List.mem_cons_of_mem _ hd)
      rw [e, List.length_append, List.length_map, List.length_range, List.length_cons]
      omega
  refine it_any (n := xs.length) walk_tup (fun i H' => ∃ ys, Same H H' ∧ H' D = some (.lst ys) ∧ TupsAt H' ys (F (v.deeds.take i))) ⟨[], same_new hD, upd_same, trivial⟩ (fun i H' _ ⟨_, s, _⟩ => same_t s hx) ?_ ?_
  · rintro i x H' H2 hi ⟨ys, s, eD, hy⟩ ⟨rfl, ex⟩
    obtain ⟨dd, ed, hdd⟩ := dps_get hxs ex
    obtain ⟨cc, ec, rfl⟩ := get_mapA ed
    obtain ⟨t, x1, x2, x3, rfl, ht, e1, e2, e3⟩ := dp3 (dp_same s hdd)
    cases dp_str e1
    cases dp_int e2
    have hc := ok.ch cc (List.mem_of_getElem? ec)
    refine ⟨t, _, rfl, ht, rfl, _, _, rfl, _, _, rfl, _, _, rfl, rfl, rfl, ?_⟩
    refine ⟨_, rfl, cc.2.1, rfl, by omega, by omega, ?_⟩
    refine it_any (n := cc.2.1.toNat) walk_range (fun j H' => ∃ ys, Same H H' ∧ H' D = some (.lst ys) ∧ TupsAt H' ys (F (v.deeds.take i) ++ (List.range j).map fun (j : Nat) => (cc.1, (j : Int)))) ⟨ys, s, eD, by simpa using hy⟩ (fun _ _ _ _ => trivial) ?_ ?_
    · rintro j x H3 H4 hj ⟨zs, s3, eD3, hz⟩ ⟨rfl, rfl⟩
      refine ⟨rfl, _, rfl, _, rfl, (by show 2 ≤ sizeLine; decide), fun t ht => ?_⟩
      have ntD : D ≠ t := ne_of_none eD3 ht
      have hlz := tups_len hz
      have hb := bnd (v.deeds.take i) fun d hd => (ok.ch d (List.mem_of_mem_take hd)).2
      have hl8 : (v.deeds.take i).length ≤ 8 := by rw [List.length_take]; have := ok.d1; omega
      rw [List.length_append, List.length_map, List.length_range] at hlz
      refine ⟨zs, by rw [upd_ne ntD]; exact eD3, by rw [sizeLine_eq]; omega, zs ++ [.ref t], fun b o e => ?_, upd_same, ?_⟩
      · rw [upd_ne (ne_of_none e hD), upd_ne (ne_of_none (s3 b o e) ht)]
        exact s3 b o e
      · rw [range_more, List.map_append, ← List.append_assoc]
        refine tups_snoc ?_ (tups_but (D := D) (H := upd H4 t (.tup [.str cc.1, .int (0 + (j : Int))])) (.lst (l := zs) (by rw [upd_ne ntD]; exact eD3)) But.upd (tups_same (same_new ht) hz))
        rw [upd_ne (Ne.symm ntD), upd_same]
        simp
    · rintro H3 ⟨zs, s3, eD3, hz⟩
      refine ⟨zs, s3, eD3, ?_⟩
      rw [take_more ec, FS]
      exact hz
  · rintro H' ⟨ys, s, eD, hy⟩
    refine q D ys H' s eD ?_
    rw [el, List.take_length] at hy
    exact hy
end

end M

set_option Elab.async false
set_option linter.all false
set_option maxRecDepth 100000
set_option maxHeartbeats 2000000
namespace M
open PySem PySem.Spec PyProof.Rows L2

/-! ### pastless.bodies: what a body may be -/
def regs4 : List Str := ["a", "b", "c", "d"]
def regs5 : List Str := ["a", "b", "c", "d", "x"]
def signs : List Str := ["+", "-", "*", "=", "<"]
def Exp.ok : Exp → Prop
  | .num n => 0 ≤ n ∧ n ≤ 9
  | .reg r => r ∈ regs5
  | .op s a b => s ∈ signs ∧ a.ok ∧ b.ok
def Exp.dep : Exp → Nat
  | .op _ a b => Nat.max a.dep b.dep + 1
  | _ => 0
/-- a part of a row -/
inductive Prt where
  | reg (r : Str) | cell (k : Int) | ex (e : Exp) | rows (rs : List Row)
def Prt.d : Prt → PyData
  | .reg r => .str r
  | .cell k => .int k
  | .ex e => e.d
  | .rows rs => .tuple (rowsD rs)
def Prt.kind : Prt → Str
  | .reg _ => "REG"
  | .cell _ => "CELL"
  | .ex _ => "E"
  | .rows _ => "ROWS"
def Row.word : Row → Str
  | .read .. => "read" | .set .. => "set" | .swap .. => "swap" | .keep .. => "keep" | .coin .. => "coin" | .iff .. => "if" | .times .. => "times" | .ans .. => "answer"
def Row.prts : Row → List Prt
  | .read r c => [.reg r, .cell c]
  | .set c e => [.cell c, .ex e]
  | .swap r c e f => [.reg r, .cell c, .ex e, .ex f]
  | .keep r e => [.reg r, .ex e]
  | .coin r => [.reg r]
  | .iff e a b => [.ex e, .rows a, .rows b]
  | .times e a => [.ex e, .rows a]
  | .ans e => [.ex e]
theorem row_d (r : Row) : r.d = .tuple (.str r.word :: r.prts.map Prt.d) := by cases r <;> rfl
theorem rowsD_map : ∀ rs : List Row, rowsD rs = rs.map Row.d
  | [] => rfl
  | r :: rs => congrArg (r.d :: ·) (rowsD_map rs)
mutual
/-- rows in all, rows "coin" -/
def Row.cl : Row → Nat
  | .iff _ a b => 1 + (rowsCl a + rowsCl b)
  | .times _ a => 1 + rowsCl a
  | _ => 1
def rowsCl : List Row → Nat
  | [] => 0
  | r :: rs => r.cl + rowsCl rs
end
mutual
def Row.cc : Row → Nat
  | .iff _ a b => rowsCc a + rowsCc b
  | .times _ a => rowsCc a
  | .coin _ => 1
  | _ => 0
def rowsCc : List Row → Nat
  | [] => 0
  | r :: rs => r.cc + rowsCc rs
end
def Prt.cl : Prt → Nat
  | .rows rs => rowsCl rs
  | _ => 0
def Prt.cc : Prt → Nat
  | .rows rs => rowsCc rs
  | _ => 0
def sumN : List Nat → Nat
  | [] => 0
  | n :: r => n + sumN r
def Exp.good (e : Exp) : Prop := e.ok ∧ e.dep ≤ 6
mutual
def Row.ok (c : Int) (deep loops : Nat) : Row → Prop
  | .read r k => r ∈ regs4 ∧ 0 ≤ k ∧ k < c
  | .set k e => (0 ≤ k ∧ k < c) ∧ e.good
  | .swap r k e f => r ∈ regs4 ∧ (0 ≤ k ∧ k < c) ∧ e.good ∧ f.good
  | .keep r e => r ∈ regs4 ∧ e.good
  | .coin r => r ∈ regs4 ∧ loops = 0
  | .iff e a b => e.good ∧ rowsOk c (deep + 1) loops a ∧ rowsOk c (deep + 1) loops b
  | .times e a => e.good ∧ loops < 2 ∧ rowsOk c (deep + 1) (loops + 1) a
  | .ans e => e.good
def rowsOk (c : Int) (deep loops : Nat) : List Row → Prop
  | [] => True
  | r :: rs => deep ≤ 12 ∧ r.ok c deep loops ∧ rowsOk c deep loops rs
end
def Prt.ok (c : Int) (deep loops : Nat) : Prt → Prop
  | .reg r => r ∈ regs4
  | .cell k => 0 ≤ k ∧ k < c
  | .ex e => e.good
  | .rows rs => rowsOk c (deep + 1) loops rs
/-- the loops within which the parts of a row stand -/
def Row.lp (loops : Nat) : Row → Nat
  | .times .. => loops + 1
  | _ => loops
theorem row_prts {c : Int} {deep loops : Nat} {r : Row} (h : r.ok c deep loops) : ∀ p ∈ r.prts, p.ok c deep (r.lp loops) := by
  intro p hp
  cases r with
  | read r k => simp [Row.prts] at hp; simp [Row.ok] at h; rcases hp with rfl | rfl; exact h.1; exact h.2
  | set k e => simp [Row.prts] at hp; simp only [Row.ok] at h; rcases hp with rfl | rfl; exact h.1; exact h.2
  | swap r k e f => simp [Row.prts] at hp; simp only [Row.ok] at h; rcases hp with rfl | rfl | rfl | rfl; exact h.1; exact h.2.1; exact h.2.2.1; exact h.2.2.2
  | keep r e => simp [Row.prts] at hp; simp only [Row.ok] at h; rcases hp with rfl | rfl; exact h.1; exact h.2
  | coin r => simp [Row.prts] at hp; simp only [Row.ok] at h; subst hp; exact h.1
  | iff e a b => simp [Row.prts] at hp; simp only [Row.ok] at h; rcases hp with rfl | rfl | rfl; exact h.1; exact h.2.1; exact h.2.2
  | times e a => simp [Row.prts] at hp; simp only [Row.ok] at h; rcases hp with rfl | rfl; exact h.1; exact h.2.2
  | ans e => simp [Row.prts] at hp; simp only [Row.ok] at h; subst hp; exact h
theorem row_cl (r : Row) : r.cl = 1 + sumN (r.prts.map Prt.cl) := by cases r <;> simp [Row.cl, Row.prts, sumN, Prt.cl]
def Row.co : Row → Nat
  | .coin _ => 1
  | _ => 0
theorem row_cc (r : Row) : r.cc = r.co + sumN (r.prts.map Prt.cc) := by cases r <;> simp [Row.cc, Row.co, Row.prts, sumN, Prt.cc]
theorem sumN_take {l : List Nat} {i : Nat} {x : Nat} (h : l[i]? = some x) : sumN (l.take (i + 1)) = sumN (l.take i) + x := by
  induction l generalizing i with
  | nil => simp at h
  | cons a r ih =>
    cases i with
    | zero =>
      cases (Option.some.inj h)
      simp [sumN]
    | succ i =>
      have := ih (i := i) h
      show a + sumN (r.take (i + 1)) = a + sumN (r.take i) + x
      omega
theorem sumN_le (l : List Nat) (i : Nat) : sumN (l.take i) ≤ sumN l := by
  induction l generalizing i with
  | nil => simp [sumN]
  | cons a r ih =>
    cases i with
    | zero => simp [sumN]
    | succ i =>
      have := ih i
      show a + sumN (r.take i) ≤ a + sumN r
      omega
/-! ### what the module has written -/
section
variable {P : Program} {w : World} {K : PySem.W.Frag} {mg : Str → Option Value} {base : Heap}
theorem sq_HELD (T : Txt w K mg) (H : Hp) : SqT K H (He.ga K "HELD") (regs5.map V.str) := He.tupB_ok T.e_HELD H
theorem sq_SIGNS (T : Txt w K mg) (H : Hp) : SqT K H (He.ga K "SIGNS") (signs.map V.str) := He.tupB_ok T.e_SIGNS H
theorem sq_CHANGED (T : Txt w K mg) (H : Hp) : SqT K H (He.ga K "CHANGED") (regs4.map V.str) := He.tupB_ok T.e_CHANGED H
theorem in_regs5 : ∀ r ∈ regs5, inV (.str r) (regs5.map V.str) = true := by
  intro r h
  rw [show regs5 = (["a", "b", "c", "d", "x"] : List Str) from rfl] at h
  simp only [List.mem_cons, List.not_mem_nil, or_false] at h
  rcases h with rfl | rfl | rfl | rfl | rfl <;> decide +kernel
theorem in_regs4 : ∀ r ∈ regs4, inV (.str r) (regs4.map V.str) = true := by
  intro r h
  rw [show regs4 = (["a", "b", "c", "d"] : List Str) from rfl] at h
  simp only [List.mem_cons, List.not_mem_nil, or_false] at h
  rcases h with rfl | rfl | rfl | rfl <;> decide +kernel
theorem in_signs : ∀ r ∈ signs, inV (.str r) (signs.map V.str) = true := by
  intro r h
  rw [show signs = (["+", "-", "*", "=", "<"] : List Str) from rfl] at h
  simp only [List.mem_cons, List.not_mem_nil, or_false] at h
  rcases h with rfl | rfl | rfl | rfl | rfl <;> decide +kernel
/-- a def that promises nothing -/
theorem ca_false {x : Str} {st : Stmt} {ps : List Str} {k : Nat} (F : ∃ fd, FunD K x x (defArgs st) (defBody st) (defScope st) [] [] (He.fAd K (x, none)) fd) (g : mg x = some (.ref (He.ga K x))) (hb : BindsH x x st ps) : Ca P w K mg base k x (fun _ _ _ _ => False) := by
  obtain ⟨fd, F⟩ := F
  exact ⟨_, fd, ps, ⟨fun _ _ _ _ h => h.elim, fun _ _ _ _ _ _ _ _ _ _ _ _ _ h => h.elim⟩, g, F.kp, F.bindsN hb⟩
/-- is_expression, n tuples deep at most but one -/
def spE (K : PySem.W.Frag) : Nat → Sp
  | 0 => fun _ _ _ _ => False
  | n + 1 => fun vs H Q _ => ∃ (v : V) (e : Exp) (deep : Nat), vs = [v, .int deep] ∧ Dp K H v e.d ∧ e.ok ∧ e.dep ≤ n ∧ deep + e.dep ≤ 6 ∧ Q (.bl true) H
theorem ca_is_expression (T : Txt w K mg) : ∀ n : Nat, Ca P w K mg base (n + 2) "is_expression" (spE K n)
  | 0 => ca_false (ps := ["value", "deep"]) T.f_is_expression T.g_is_expression (fun _ _ _ _ _ _ us hl => match us, hl with | [_, _], _ => rfl)
  | n + 1 => by
    have ih := ca_is_expression T n
    refine ca_of (N := ["value", "deep", "sign", "one", "other"]) (ps := ["value", "deep"]) T.f_is_expression T.g_is_expression ⟨rfl, rfl, rfl, by decide +kernel, rfl, by decide +kernel, by decide +kernel⟩ (fun _ _ _ _ _ _ us hl => match us, hl with | [_, _], _ => rfl)
      (fun vs H Q E h => by obtain ⟨v, e, deep, rfl, hv, ok, hd, h6, q⟩ := h; rfl) (fun cdv A outer s H vs Q E hr h => ?_)
    have nd : (["value", "deep", "sign", "one", "other"] : List Str).Nodup := by decide +kernel
    obtain ⟨v, e, deep, rfl, hv, ok, hd, h6, q⟩ := h
    refine ⟨_, pss_cons (ps_if (pt_val (pe_ca (ca_is_integer T) hr (pa_cons (pv 0) pa_nil) (by omega))) (pss_one (ps_ret (pe_chain op_le op_le pe_int (pv 0) pe_int))) pss_nil)
      (pss_cons (ps_if (pt_val (pe_is .str T.b_isinstance (pv 0) T.b_str boot_str)) (pss_one (ps_ret (pe_cmpR op_in_seq (pv 0) (pe_gr T.g_HELD) (by rfl)))) pss_nil)
      (pss_cons (ps_if (PW.pt (pw_or (pt_not (pt_val (pe_ca (ca_is_tuple T) hr (pa_cons (pv 0) (pa_cons pe_int pa_nil)) (by omega)))) (pw_or1 (pt_cmpR op_eq (pv 1) (pe_gi T.i_DEEPEST_EXPRESSION) (nomark _))))) (pss_one (ps_ret pe_bl)) pss_nil)
      (pss_cons (ps_asg (pv 0) (pg_three K 2 3 4 rfl rfl nd rfl rfl rfl (.inl rfl) (.inl rfl) (.inl rfl) (.inr rfl) (.inr rfl) (.inr rfl)))
      (pss_one (ps_ret (pe_and (pe_cmpR op_in_seq (pv 2) (pe_gr T.g_SIGNS) (by rfl)) (pe_and (pe_ca ih hr (pa_cons (pv 3) (pa_cons (pe_op op_add (pv 1) pe_int) pa_nil)) (by omega)) (pe_one (pe_ca ih hr (pa_cons (pv 4) (pa_cons (pe_op op_add (pv 1) pe_int) pa_nil)) (by omega)))))))))), ?_⟩
    cases e with
    | num m =>
      cases dp_int hv
      refine ⟨_, rfl, _, _, rfl, .int m, _, rfl, iteT ?_⟩
      refine ⟨_, rfl, _, _, rfl, rfl, _, rfl, ?_⟩
      rw [decide_eq_true ok.1]
      refine iteT ⟨_, _, rfl, rfl, ?_⟩
      show Q (.bl (decide (m ≤ 9))) H
      rw [decide_eq_true ok.2]
      exact q
    | reg r =>
      cases dp_str hv
      refine ⟨_, rfl, _, _, rfl, .str r, _, rfl, iteF ?_⟩
      refine ⟨_, rfl, _, _, rfl, .str r, _, rfl, iteT ?_⟩
      refine ⟨_, rfl, _, _, rfl, .inr (sq_HELD T H), rfl, by decide +kernel, ?_⟩
      show Q (.bl (inV (.str r) (regs5.map V.str))) H
      rw [in_regs5 r ok]
      exact q
    | op s a b =>
      obtain ⟨p, x, y, z, rfl, hp, hx, hy, hz⟩ := dp3 hv
      cases dp_str hx
      have hn : 1 ≤ n := by have : Nat.max a.dep b.dep + 1 ≤ n := hd; omega
      obtain ⟨m, rfl⟩ : ∃ m, n = m + 1 := ⟨n - 1, by omega⟩
      have hd' : Nat.max a.dep b.dep + 1 ≤ m + 1 := hd
      have h6' : deep + (Nat.max a.dep b.dep + 1) ≤ 6 := h6
      have ha : a.dep ≤ Nat.max a.dep b.dep := Nat.le_max_left ..
      have hb : b.dep ≤ Nat.max a.dep b.dep := Nat.le_max_right ..
      refine ⟨_, rfl, _, _, rfl, .tuple hp, _, rfl, iteF ?_⟩
      refine ⟨_, rfl, _, _, rfl, .tuple hp, _, rfl, iteF ?_⟩
      refine ⟨_, rfl, p, _, _, rfl, hp, _, rfl, iteF ?_⟩
      refine ⟨_, rfl, rfl, _, rfl, ?_⟩
      rw [decide_eq_false (show ¬ V.int (deep : Int) = V.int 6 from fun e => by have := V.int.inj e; omega)]
      refine iteF ?_
      refine ⟨_, rfl, p, _, rfl, hp, rfl, _, _, rfl, _, _, rfl, _, _, rfl, rfl, ?_⟩
      refine ⟨_, rfl, _, _, rfl, .inr (sq_SIGNS T H), rfl, by decide +kernel, _, rfl, ?_⟩
      rw [show inV (.str s) (signs.map V.str) = true from in_signs s ok.1]
      refine iteT ?_
      refine ⟨_, rfl, _, rfl, _, _, rfl, rfl, y, a, deep + 1, by simp, hy, ok.2.1, by omega, by omega, _, rfl, iteT ?_⟩
      exact ⟨_, rfl, _, rfl, _, _, rfl, rfl, z, b, deep + 1, by simp, hz, ok.2.2, by omega, by omega, q⟩
end

end M

set_option Elab.async false
set_option linter.all false
set_option maxRecDepth 100000
set_option maxHeartbeats 2000000
namespace M
open PySem PySem.Spec PyProof.Rows L2

theorem at0 {a : V} {xs : List V} : atI (a :: xs) 0 = some a := atI_nat (xs := a :: xs) (j := 0) rfl
theorem at1 {a b : V} {xs : List V} : atI (a :: b :: xs) 1 = some b := atI_nat (xs := a :: b :: xs) (j := 1) rfl
theorem at2 {a b c : V} {xs : List V} : atI (a :: b :: c :: xs) 2 = some c := atI_nat (xs := a :: b :: c :: xs) (j := 2) rfl
theorem at3 {a b c d : V} {xs : List V} : atI (a :: b :: c :: d :: xs) 3 = some d := atI_nat (xs := a :: b :: c :: d :: xs) (j := 3) rfl
theorem at4 {a b c d e : V} {xs : List V} : atI (a :: b :: c :: d :: e :: xs) 4 = some e := atI_nat (xs := a :: b :: c :: d :: e :: xs) (j := 4) rfl
/-! ### d.get(x) of a written dict -/
section
variable {X : Cx} {d : Addr} {es : Array DictEntry} {n : Nat} {o e : Expr} {apos cpos : Pos} {to te : TE}
/-- what d.get(x) gives: what is written at x -/
def tKGet (K : PySem.W.Frag) (d : Addr) (to te : TE) : TE := fun σ H Q => to σ H fun x H1 => x = .ref d ∧ te σ H1 fun y H2 => ∃ (z : Str) (u0 : Value) (v0 : V), y = .str z ∧ PySem.W.nsIn K d z = some (some u0) ∧ RelV v0 u0 ∧ Q v0 H2
theorem pe_kget (D : KDict X.K X.w d es n) (ho : PE X o to) (he : PE X e te) (m : M1 X o "get" apos e cpos) : PE X (.Call (.Attribute o "get" apos) [e] [] cpos) (tKGet X.K d to te) := by
  refine ⟨fun pins s σ H Q I h => ?_⟩
  refine wpAny_Call_method m.base m.few m.line PySem.F.plainAttrs_dict PySem.F.slot_dict_get PySem.F.type_dict_get (thn (ho.run pins s σ H _ I h) fun u s1 hu => ?_)
  obtain ⟨x, H1, I1, rx, ex, q1⟩ := hu
  subst ex
  cases rx
  have M1 : s1.heap.MapOf (strKind X.prog X.w) d _ := PySem.W.mapOf_K (prog := X.prog) I1.kIn D.at_ D.lit
  refine ⟨M1.typeIs, M1.noDict, ?_⟩
  rw [m.trees]
  refine Calls.callWith_builtin rfl (Calls.evalArgs_plain (Calls.spliced_cons (thn (he.run pins s1 σ H1 _ I1 q1) fun iv s2 hv => Calls.spliced_nil ?_)))
  obtain ⟨y, H2, I2, ry, z, u0, v0, ey, hz, r0, q2⟩ := hv
  subst ey
  obtain ⟨t, et⟩ := ry
  subst et
  have M2 : s2.heap.MapOf (strKind X.prog X.w) d _ := PySem.W.mapOf_K (prog := X.prog) I2.kIn D.at_ D.lit
  refine call_meetsIn PySem.F.slot_dict_get M2.typeIs PySem.F.entry_dict_get (PySem.F.args_dict_get_2 _ _) (meets_dict_get (strKind X.prog X.w) d (PySem.strKind_is X.prog X.w z t) D.low) ⟨_, M2, ?_⟩
  rw [PySem.W.find_K D.at_ hz]
  exact ⟨v0, H2, I2.tok _, r0, q2⟩
end
/-! ### the tally of a body -/
def tfl (c co li : Int) : List (Str × V) := putF "lines" (.int li) (putF "coins" (.int co) (putF "cells" (.int c) []))
theorem t1 : ¬ (("cells" : Str) = "coins") := by decide +kernel
theorem t2 : ¬ (("cells" : Str) = "lines") := by decide +kernel
theorem t3 : ¬ (("coins" : Str) = "lines") := by decide +kernel
theorem tfl_eq (c co li : Int) : tfl c co li = ([("cells", V.int c), ("coins", V.int co), ("lines", V.int li)] : List (Str × V)) := by
  unfold tfl
  simp only [putF, if_neg t1, if_neg t2, if_neg t3]
theorem tf_cells (c co li : Int) : (tfl c co li).lookup ("cells" : Str) = some (.int c) := by
  unfold tfl
  rw [lookup_putF, if_neg t2, lookup_putF, if_neg t1, lookup_putF, if_pos rfl]
theorem tf_coins (c co li : Int) : (tfl c co li).lookup ("coins" : Str) = some (.int co) := by
  unfold tfl
  rw [lookup_putF, if_neg t3, lookup_putF, if_pos rfl]
theorem tf_lines (c co li : Int) : (tfl c co li).lookup ("lines" : Str) = some (.int li) := by
  unfold tfl
  rw [lookup_putF, if_pos rfl]
theorem tf_putL (c co li y : Int) : putF "lines" (.int y) (tfl c co li) = tfl c co y := by
  rw [tfl_eq, tfl_eq]
  simp only [putF]
  rw [if_neg t2, if_neg t3, if_pos trivial]
theorem tf_putC (c co li y : Int) : putF "coins" (.int y) (tfl c co li) = tfl c y li := by
  rw [tfl_eq, tfl_eq]
  simp only [putF]
  rw [if_neg t1, if_pos trivial]
def TallyAt (K : PySem.W.Frag) (H : Hp) (t : Addr) (c co li : Int) : Prop := ∃ dx, H t = some (.ins (He.ga K "Tally") dx (tfl c co li))
theorem forms_of {K : PySem.W.Frag} {a : Addr} {kvs : List (Str × List Str)} (h : formsB K a kvs = true) {q : Str × List Str} (hq : q ∈ kvs) (H : Hp) : ∃ t, PySem.W.nsIn K a q.1 = some (some (.ref t)) ∧ SqT K H t (q.2.map V.str) := by
  have z := List.all_eq_true.mp h q hq
  split at z
  · rename_i t e
    split at z
    · rename_i c its n sl e2
      obtain ⟨h1, z⟩ := He.ba z
      obtain ⟨h2, h3⟩ := He.ba z
      have h1 := of_decide_eq_true h1
      subst h1
      refine ⟨t, e, .inr ⟨_, its, n, e2, rfl, rfl, of_decide_eq_true h2, He.relAll_ok h3⟩⟩
    · cases z
  · cases z
/-- the forms as the module has written them -/
def forms : List (Str × List Str) := [("read", ["REG", "CELL"]), ("set", ["CELL", "E"]), ("swap", ["REG", "CELL", "E", "E"]), ("keep", ["REG", "E"]), ("coin", ["REG"]), ("if", ["E", "ROWS", "ROWS"]), ("times", ["E", "ROWS"]), ("answer", ["E"])]
theorem row_form (r : Row) : (r.word, r.prts.map Prt.kind) ∈ forms := by
  unfold forms
  cases r <;> simp [Row.word, Row.prts, Prt.kind]
section
variable {P : Program} {w : World} {K : PySem.W.Frag} {mg : Str → Option Value} {base : Heap}
theorem form_at (T : Txt w K mg) (r : Row) (H : Hp) : ∃ t, PySem.W.nsIn K (He.ga K "FORMS") r.word = some (some (.ref t)) ∧ SqT K H t ((r.prts.map Prt.kind).map V.str) := forms_of (kvs := forms) T.e_FORMS (row_form r) H
def spTally (K : PySem.W.Frag) : Sp := fun vs H Q _ => ∃ (p dx : Addr) (c : Int), vs = [.ref p, .int c] ∧ H p = some (.ins (He.ga K "Tally") dx []) ∧ Q .non (upd H p (.ins (He.ga K "Tally") dx (tfl c 0 0)))
theorem ma_Tally (T : Txt w K mg) : Ma P w K mg base 1 "Tally" (He.ga K "Tally") (spTally K) := by
  refine ma_of (N := ["self", "cells"]) (ps := ["self", "cells"]) T.f_Tally_init T.g_Tally T.k_Tally ⟨rfl, rfl, rfl, by decide +kernel, rfl, by decide +kernel, by decide +kernel⟩ (fun _ _ _ _ _ _ us hl => match us, hl with | [_, _], _ => rfl)
    (fun vs H Q E h => by obtain ⟨p, dx, c, rfl, hp, q⟩ := h; rfl) (fun cdv A outer s H vs Q E hr h => ?_)
  have nd : (["self", "cells"] : List Str).Nodup := by decide +kernel
  obtain ⟨p, dx, c, rfl, hp, q⟩ := h
  refine ⟨_, pss_cons (ps_fld (pv 0) (pv 1) rfl) (pss_cons (ps_fld (pv 0) pe_int rfl) (pss_one (ps_fld (pv 0) pe_int rfl))), ?_⟩
  refine ⟨_, rfl, _, rfl, p, _, dx, _, rfl, hp, T.c_Tally, T.n_Tally_cells, (by show 0 < 1000; decide), ?_⟩
  refine ⟨_, rfl, p, _, dx, _, rfl, upd_same, T.c_Tally, T.n_Tally_coins, (by show 1 < 1000; decide), ?_⟩
  refine ⟨_, rfl, p, _, dx, _, rfl, upd_same, T.c_Tally, T.n_Tally_lines, (by show 2 < 1000; decide), ?_⟩
  rw [upd_upd, upd_upd]
  exact q
/-! ### the rows of a body, n ifs and times deep at most but one -/
def spRows (K : PySem.W.Frag) : Nat → Sp
  | 0 => fun _ _ _ _ => False
  | n + 1 => fun vs H Q _ => ∃ (v : V) (rs : List Row) (deep loops : Nat) (t : Addr) (c : Int) (co li : Nat), vs = [v, .int deep, .int loops, .ref t] ∧ Dp K H v (.tuple (rowsD rs)) ∧ TallyAt K H t c co li ∧ rowsOk c deep loops rs ∧ 14 ≤ deep + (n + 1) ∧ co + rowsCc rs ≤ 4 ∧ li + rowsCl rs ≤ 2000 ∧
    ∀ H', But t H H' → TallyAt K H' t c ((co + rowsCc rs : Nat) : Int) ((li + rowsCl rs : Nat) : Int) → Q (.bl true) H'
def spPart (K : PySem.W.Frag) (n : Nat) : Sp := fun vs H Q _ => ∃ (v : V) (p : Prt) (deep loops : Nat) (t : Addr) (c : Int) (co li : Nat), vs = [.str p.kind, v, .int deep, .int loops, .ref t] ∧ Dp K H v p.d ∧ TallyAt K H t c co li ∧ p.ok c deep loops ∧ (14 ≤ deep + (n + 1) ∧ deep ≤ 12) ∧ co + p.cc ≤ 4 ∧ li + p.cl ≤ 2000 ∧
    ∀ H', But t H H' → TallyAt K H' t c ((co + p.cc : Nat) : Int) ((li + p.cl : Nat) : Int) → Q (.bl true) H'
theorem ca_is_part {n : Nat} (R : Ca P w K mg base (3 * n + 10) "are_body_rows" (spRows K n)) (T : Txt w K mg) : Ca P w K mg base (3 * n + 11) "is_part" (spPart K n) := by
    refine ca_of (N := ["kind", "value", "deep", "loops", "tally"]) (ps := ["kind", "value", "deep", "loops", "tally"]) T.f_is_part T.g_is_part ⟨rfl, rfl, rfl, by decide +kernel, rfl, by decide +kernel, by decide +kernel⟩ (fun _ _ _ _ _ _ us hl => match us, hl with | [_, _, _, _, _], _ => rfl)
      (fun vs H Q E h => by obtain ⟨v, p, deep, loops, t, c, co, li, rfl, hv, ht, ok, hd, hc, hl, q⟩ := h; rfl) (fun cdv A outer s H vs Q E hr h => ?_)
    have nd : (["kind", "value", "deep", "loops", "tally"] : List Str).Nodup := by decide +kernel
    obtain ⟨v, p, deep, loops, t, c, co, li, rfl, hv, ht, ok, hd, hc, hl, q⟩ := h
    refine ⟨_, pss_cons (ps_if (pt_cmpR op_eq (pv 0) pe_str (nomark _)) (pss_one (ps_ret (pe_cmpR op_in_seq (pv 1) (pe_gr T.g_CHANGED) (by rfl)))) pss_nil)
      (pss_cons (ps_if (pt_cmpR op_eq (pv 0) pe_str (nomark _)) (pss_one (ps_ret (pe_ca (ca_is_within T) hr (pa_cons (pv 1) (pa_cons pe_int (pa_cons (pe_op op_sub (pe_fld (pv 4) rfl) pe_int) pa_nil))) (by omega)))) pss_nil)
      (pss_cons (ps_if (pt_cmpR op_eq (pv 0) pe_str (nomark _)) (pss_one (ps_ret (pe_ca (ca_is_expression T 7) hr (pa_cons (pv 1) (pa_cons pe_int pa_nil)) (by omega)))) pss_nil)
      (pss_one (ps_ret (pe_ca R hr (pa_cons (pv 1) (pa_cons (pe_op op_add (pv 2) pe_int) (pa_cons (pv 3) (pa_cons (pv 4) pa_nil)))) (by omega)))))), ?_⟩
    obtain ⟨dx, ht'⟩ := id ht
    cases p with
    | reg r =>
      cases dp_str hv
      refine ⟨_, rfl, rfl, _, rfl, iteT ?_⟩
      refine ⟨_, rfl, _, _, rfl, .inr (sq_CHANGED T H), rfl, by decide +kernel, ?_⟩
      show Q (.bl (inV (.str r) (regs4.map V.str))) H
      rw [in_regs4 r ok]
      exact q H (fun b o _ e => e) ht
    | cell k =>
      cases dp_int hv
      refine ⟨_, rfl, rfl, _, rfl, iteF ?_⟩
      refine ⟨_, rfl, rfl, _, rfl, iteT ?_⟩
      refine ⟨_, rfl, _, rfl, t, _, dx, _, _, rfl, ht', T.c_Tally, T.n_Tally_cells, tf_cells .., _, _, rfl, rfl, k, 0, c - 1, rfl, ?_⟩
      rw [within_t ⟨ok.1, by have := ok.2; omega⟩]
      exact q H (fun b o _ e => e) ht
    | ex e =>
      refine ⟨_, rfl, rfl, _, rfl, iteF ?_⟩
      refine ⟨_, rfl, rfl, _, rfl, iteF ?_⟩
      refine ⟨_, rfl, rfl, _, rfl, iteT ?_⟩
      exact ⟨_, rfl, v, e, 0, rfl, hv, ok.1, ok.2, by have := ok.2; omega, q H (fun b o _ e => e) ht⟩
    | rows rs =>
      refine ⟨_, rfl, rfl, _, rfl, iteF ?_⟩
      refine ⟨_, rfl, rfl, _, rfl, iteF ?_⟩
      refine ⟨_, rfl, rfl, _, rfl, iteF ?_⟩
      obtain ⟨m, rfl⟩ : ∃ m, n = m + 1 := ⟨n - 1, by omega⟩
      exact ⟨_, rfl, _, rfl, _, _, rfl, rfl, _, rfl, _, rfl, v, rs, deep + 1, loops, t, c, co, li, by simp, hv, ht, ok, by omega, hc, hl, q⟩
end

end M

set_option Elab.async false
set_option linter.all false
set_option maxRecDepth 100000
set_option maxHeartbeats 2000000
namespace M
open PySem PySem.Spec PyProof.Rows L2

theorem cut1 (x : V) (xs : List V) : cutV (x :: xs) (some 1) none = xs := by
  unfold cutV
  rw [show (some (1 : Int)) = some ((1 : Nat) : Int) from rfl, HT.sIx_nat, HT.sIx_none, show min 1 (x :: xs).length = 1 from by simp]
  simp
theorem cut1_not (x : V) (xs : List V) : ¬ (HT.sIx (x :: xs).length 0 (some 1) = 0 ∧ HT.sIx (x :: xs).length (x :: xs).length none = (x :: xs).length) := by
  rw [show (some (1 : Int)) = some ((1 : Nat) : Int) from rfl, HT.sIx_nat, show min 1 (x :: xs).length = 1 from by simp]
  intro h
  exact absurd h.1 (by decide)
theorem word_coin {r : Row} (h : r.word = "coin") : ∃ x, r = .coin x := by
  cases r with
  | read r c => exact absurd (show ("read" : Str) = "coin" from h) (by decide +kernel)
  | set c e => exact absurd (show ("set" : Str) = "coin" from h) (by decide +kernel)
  | swap r c e f => exact absurd (show ("swap" : Str) = "coin" from h) (by decide +kernel)
  | keep r e => exact absurd (show ("keep" : Str) = "coin" from h) (by decide +kernel)
  | coin r => exact ⟨r, rfl⟩
  | iff e a b => exact absurd (show ("if" : Str) = "coin" from h) (by decide +kernel)
  | times e a => exact absurd (show ("times" : Str) = "coin" from h) (by decide +kernel)
  | ans e => exact absurd (show ("answer" : Str) = "coin" from h) (by decide +kernel)
theorem word_times {r : Row} (h : r.word = "times") : ∃ e a, r = .times e a := by
  cases r with
  | read r c => exact absurd (show ("read" : Str) = "times" from h) (by decide +kernel)
  | set c e => exact absurd (show ("set" : Str) = "times" from h) (by decide +kernel)
  | swap r c e f => exact absurd (show ("swap" : Str) = "times" from h) (by decide +kernel)
  | keep r e => exact absurd (show ("keep" : Str) = "times" from h) (by decide +kernel)
  | coin r => exact absurd (show ("coin" : Str) = "times" from h) (by decide +kernel)
  | iff e a b => exact absurd (show ("if" : Str) = "times" from h) (by decide +kernel)
  | times e a => exact ⟨e, a, rfl⟩
  | ans e => exact absurd (show ("answer" : Str) = "times" from h) (by decide +kernel)
theorem lp_eq {loops : Nat} {r : Row} (h : r.word ≠ "times") : r.lp loops = loops := by
  cases r <;> first | rfl | exact absurd rfl h
theorem co_eq {r : Row} (h : r.word ≠ "coin") : r.co = 0 := by
  cases r <;> first | rfl | exact absurd rfl h
section
variable {P : Program} {w : World} {K : PySem.W.Frag} {mg : Str → Option Value} {base : Heap}
def spRow (K : PySem.W.Frag) (n : Nat) : Sp := fun vs H Q _ => ∃ (v : V) (r : Row) (deep loops : Nat) (t : Addr) (c : Int) (co li : Nat), vs = [v, .int deep, .int loops, .ref t] ∧ Dp K H v r.d ∧ TallyAt K H t c co li ∧ r.ok c deep loops ∧ (14 ≤ deep + (n + 1) ∧ deep ≤ 12) ∧ co + r.cc ≤ 4 ∧ li + sumN (r.prts.map Prt.cl) ≤ 2000 ∧
    ∀ H', But t H H' → TallyAt K H' t c ((co + r.cc : Nat) : Int) ((li + sumN (r.prts.map Prt.cl) : Nat) : Int) → Q (.bl true) H'
theorem ca_is_body_row {n : Nat} (R : Ca P w K mg base (3 * n + 11) "is_part" (spPart K n)) (T : Txt w K mg) : Ca P w K mg base (3 * n + 12) "is_body_row" (spRow K n) := by
    refine ca_of (N := ["row", "deep", "loops", "tally", "form", "kind", "part"]) (ps := ["row", "deep", "loops", "tally"]) T.f_is_body_row T.g_is_body_row ⟨rfl, rfl, rfl, by decide +kernel, rfl, by decide +kernel, by decide +kernel⟩ (fun _ _ _ _ _ _ us hl => match us, hl with | [_, _, _, _], _ => rfl)
      (fun vs H Q E h => by obtain ⟨v, r, deep, loops, t, c, co, li, rfl, hv, ht, ok, hd, hc, hl, q⟩ := h; rfl) (fun cdv A outer s H vs Q E hr h => ?_)
    have nd : (["row", "deep", "loops", "tally", "form", "kind", "part"] : List Str).Nodup := by decide +kernel
    obtain ⟨v, r, deep, loops, t, c, co, li, rfl, hv, ht, ok, hd, hc, hl, q⟩ := h
    obtain ⟨es, nn, D⟩ := T.t_FORMS
    rw [row_d] at hv
    obtain ⟨a, xs, rfl, ha, hxs⟩ := dp_tup hv
    obtain ⟨y, ys, rfl, hy, hys⟩ : ∃ y ys, xs = y :: ys ∧ Dp K H y (.str r.word) ∧ DpAll K H ys (r.prts.map Prt.d) := by
      cases hxs with | cons h1 h2 => exact ⟨_, _, rfl, h1, h2⟩
    cases dp_str hy
    obtain ⟨f, hf, hfs⟩ := form_at T r H
    refine ⟨_, pss_cons (ps_if (PW.pt (pw_or (pt_not (pt_val (pe_is .tuple T.b_isinstance (pv 0) T.b_tuple boot_tuple))) (pw_or (pt_cmpR op_eq (pe_callB call_len_seq (by rfl) T.b_len PySem.boot_len (pa_cons (pv 0) pa_nil)) pe_int (nomark _)) (pw_or1 (pt_not (pt_val (pe_is .str T.b_isinstance (pe_ix ix_tup (pv 0) pe_int (fun _ _ => rfl)) T.b_str boot_str))))))) (pss_one (ps_ret pe_bl)) pss_nil)
      (pss_cons (ps_set (i := 4) nd rfl (.inl rfl) (pe_kget D (pe_gr T.g_FORMS) (pe_ix ix_tup (pv 0) pe_int (fun _ _ => rfl)) ⟨rfl, rfl, rfl, rfl⟩))
      (pss_cons (ps_if (PW.pt (pw_or (pt_cmp (pc_isN (pv 4))) (pw_or1 (pt_cmpR op_ne (pe_callB call_len_seq (by rfl) T.b_len PySem.boot_len (pa_cons (pv 0) pa_nil)) (pe_op op_add pe_int (pe_callB call_len_seq (by rfl) T.b_len PySem.boot_len (pa_cons (pv 4) pa_nil))) (nomark _))))) (pss_one (ps_ret pe_bl)) pss_nil)
      (C8.pss_cut (ps_if (pt_cmpR op_eq (pe_ix ix_tup (pv 0) pe_int (fun _ _ => rfl)) pe_str (nomark _)) (pss_cons (ps_fldaug (pv 3) pe_int in_add) (pss_one (ps_if (PW.pt (pw_or (pt_cmpR op_gt (pv 2) pe_int (nomark _)) (pw_or1 (pt_cmpR op_gt (pe_fld (pv 3) rfl) (pe_gi T.i_MOST_COINS) (nomark _))))) (pss_one (ps_ret pe_bl)) pss_nil))) pss_nil)
      (C8.pss_cut (ps_if (pt_cmpR op_eq (pe_ix ix_tup (pv 0) pe_int (fun _ _ => rfl)) pe_str (nomark _)) (pss_cons (ps_aug (i := 2) nd rfl (.inl rfl) pe_int ip_add) (pss_one (ps_if (pt_cmpR op_gt (pv 2) (pe_gi T.i_DEEPEST_TIMES) (nomark _)) (pss_one (ps_ret pe_bl)) pss_nil))) pss_nil)
      (pss_cons (ps_for PassesOwn.never rfl (RZ.pi_zipA (by rfl) T.b_zip (pa_cons (pv 4) (pa_cons (pe_slice sl_tup (pv 0) (po_some pe_int) po_none) pa_nil))) (pg_two K 5 6 rfl rfl nd rfl rfl (.inl rfl) (.inl rfl) (.inr rfl) (.inr rfl))
        (pss_one (ps_if (pt_not (pt_val (pe_ca R hr (pa_cons (pv 5) (pa_cons (pv 6) (pa_cons (pv 1) (pa_cons (pv 2) (pa_cons (pv 3) pa_nil)))))  (by omega)))) (pss_one (ps_ret pe_bl)) pss_nil)))
      (pss_one (ps_ret pe_bl))))))), ?_⟩
    have lxs : ys.length = r.prts.length := by rw [dps_len hys, List.length_map]
    -- a tuple of a word and more
    refine ⟨_, rfl, _, _, rfl, .tuple ha, _, rfl, iteF ?_⟩
    refine ⟨_, rfl, _, _, rfl, .inr ha, rfl, _, rfl, ?_⟩
    rw [decide_eq_false (show ¬ V.int (((.str r.word :: ys : List V).length : Nat) : Int) = V.int 0 from fun e => by have := V.int.inj e; simp at this; omega)]
    refine iteF ?_
    refine ⟨_, rfl, _, _, _, _, rfl, rfl, ha, at0, _, _, rfl, .str _, _, rfl, iteF ?_⟩
    -- its form
    refine ⟨rfl, _, rfl, _, _, _, _, rfl, rfl, ha, at0, r.word, _, .ref f, rfl, hf, rfl, ?_⟩
    refine ⟨_, rfl, _, rfl, iteF ?_⟩
    refine ⟨_, rfl, _, _, rfl, .inr ha, _, rfl, _, _, rfl, .inr hfs, _, _, rfl, rfl, rfl, _, rfl, ?_⟩
    refine iteNS (by rw [List.length_cons, lxs, List.length_map, List.length_map]; congr 1; omega) ?_
    -- the coins
    refine ⟨fun σ' H' => σ' = [some (.ref a), some (.int deep), some (.int loops), some (.ref t), some (.ref f), none, none] ∧ But t H H' ∧ TallyAt K H' t c ((co + r.co : Nat) : Int) li, ?_, ?_⟩
    · refine ⟨_, rfl, _, _, _, _, rfl, rfl, ha, at0, rfl, _, rfl, ?_⟩
      by_cases e : r.word = "coin"
      · rw [e]
        refine iteT ?_
        obtain ⟨dx, ht'⟩ := ht
        refine ⟨_, rfl, t, _, dx, _, _, rfl, ht', T.c_Tally, T.n_Tally_coins, tf_coins .., _, _, rfl, rfl, dx, _, ht', (by rw [tfl_eq]; show 3 < 1000; decide), ?_⟩
        rw [tf_putC]
        obtain ⟨x, rfl⟩ := word_coin e
        have e1 : (Row.coin x).co = 1 := rfl
        have e2 : loops = 0 := ok.2
        have e3 := row_cc (.coin x)
        refine ⟨_, rfl, _, _, rfl, rfl, _, rfl, ?_⟩
        rw [decide_eq_false (show ¬ (0 : Int) < (loops : Int) from by omega)]
        refine iteF ⟨_, rfl, t, _, dx, _, _, rfl, upd_same, T.c_Tally, T.n_Tally_coins, tf_coins .., _, _, rfl, rfl, _, rfl, ?_⟩
        rw [decide_eq_false (show ¬ (4 : Int) < (co : Int) + 1 from by omega)]
        refine iteF ⟨rfl, But.upd, dx, ?_⟩
        rw [upd_same, e1]
        rfl
      · rw [decide_eq_false (show ¬ V.str r.word = V.str "coin" from fun z => e (V.str.inj z))]
        refine iteF ⟨rfl, fun b o _ z => z, ?_⟩
        rw [co_eq e]
        exact ht
    rintro σ1 H1 ⟨rfl, b1, ht1⟩
    -- the times
    have ch : Ch H t := by obtain ⟨dx, z⟩ := ht; exact .ins z
    have ch1 : Ch H1 t := by obtain ⟨dx, z⟩ := ht1; exact .ins z
    have ha1 := sqT_but ch b1 ha
    refine ⟨fun σ' H' => σ' = [some (.ref a), some (.int deep), some (.int ((r.lp loops : Nat) : Int)), some (.ref t), some (.ref f), none, none] ∧ H' = H1, ?_, ?_⟩
    · refine ⟨_, rfl, _, _, _, _, rfl, rfl, ha1, at0, rfl, _, rfl, ?_⟩
      by_cases e : r.word = "times"
      · rw [e]
        refine iteT ?_
        have ⟨e1, e2⟩ : r.lp loops = loops + 1 ∧ loops < 2 := by
          obtain ⟨x, y, rfl⟩ := word_times e
          exact ⟨rfl, ok.2.1⟩
        refine ⟨_, rfl, _, _, rfl, rfl, ?_⟩
        refine ⟨_, rfl, _, _, rfl, rfl, _, rfl, ?_⟩
        rw [decide_eq_false (show ¬ (2 : Int) < (loops : Int) + 1 from by omega)]
        refine iteF ⟨?_, rfl⟩
        rw [e1]
        rfl
      · rw [decide_eq_false (show ¬ V.str r.word = V.str "times" from fun z => e (V.str.inj z))]
        refine iteF ⟨?_, rfl⟩
        rw [lp_eq e]
    rintro σ2 H2 ⟨rfl, rfl⟩
    -- the parts
    refine ⟨_, rfl, _, rfl, _, rfl, a, _, rfl, ha1, cut1_not _ _, fun p np => ?_⟩
    rw [cut1]
    have hfs1 : SqT K H2 f ((r.prts.map Prt.kind).map V.str) := sqT_but ch b1 hfs
    have ntp : t ≠ p := fun z => by obtain ⟨dx, y⟩ := ht1; rw [z, np] at y; cases y
    have sn : Same H2 (upd H2 p (.tup ys)) := same_new np
    refine ⟨f, p, _, _, rfl, .inr ⟨same_t sn hfs1, .of upd_same, RZ.for_zipT (xs := (r.prts.map Prt.kind).map V.str) (ys := ys) (by simp [lxs]) (fun i σ' H' => ∃ x y, σ' = [some (.ref a), some (.int deep), some (.int ((r.lp loops : Nat) : Int)), some (.ref t), some (.ref f), x, y] ∧ But t (upd H2 p (.tup ys)) H' ∧ TallyAt K H' t c ((co + r.co + sumN ((r.prts.map Prt.cc).take i) : Nat) : Int) ((li + sumN ((r.prts.map Prt.cl).take i) : Nat) : Int))
      ⟨none, none, rfl, fun b o _ z => z, by obtain ⟨dx, y⟩ := ht1; exact ⟨dx, sn _ _ y⟩⟩ (fun i σ' H' ⟨_, _, _, bt, _⟩ => ⟨sqT_but (H := upd H2 p (.tup ys)) (by obtain ⟨dx, y⟩ := ht1; exact .ins (sn _ _ y)) bt (same_t sn hfs1), sqT_but (H := upd H2 p (.tup ys)) (by obtain ⟨dx, y⟩ := ht1; exact .ins (sn _ _ y)) bt (.of upd_same)⟩) ?_ ?_⟩⟩
    · rintro i x y tt σ' H' hx hy' ⟨_, _, rfl, bt, hta⟩ ntt
      obtain ⟨kk, hk, rfl⟩ := get_mapA hx
      obtain ⟨pp, hp, rfl⟩ := get_mapA hk
      obtain ⟨dd, hdd, hyd⟩ := dps_get hys hy'
      obtain ⟨pp', hp', rfl⟩ := get_mapA hdd
      rw [hp] at hp'
      cases hp'
      have okp := row_prts ok pp (List.mem_of_getElem? hp)
      have nl : NoL pp.d := by
        have := r.noL
        rw [row_d] at this
        cases this with
        | tup h => exact h _ (List.mem_cons_of_mem _ (List.mem_map.mpr ⟨pp, List.mem_of_getElem? hp, rfl⟩))
      have chp : Ch (upd H2 p (.tup ys)) t := by obtain ⟨dx, y⟩ := ht1; exact .ins (sn _ _ y)
      have hy2 : Dp K H' y pp.d := dp_but chp bt (dp_same sn (dp_but ch b1 hyd nl)) nl
      have sn2 : Same H' (upd H' tt (.tup [.str pp.kind, y])) := same_new ntt
      have ntt' : t ≠ tt := fun z => by obtain ⟨dx, y⟩ := hta; rw [z, ntt] at y; cases y
      have ec : ((r.prts.map Prt.cc)[i]?) = some pp.cc := by rw [List.getElem?_map, hp]; rfl
      have el : ((r.prts.map Prt.cl)[i]?) = some pp.cl := by rw [List.getElem?_map, hp]; rfl
      have sc := sumN_take ec
      have sl := sumN_take el
      have lc := sumN_le (r.prts.map Prt.cc) (i + 1)
      have ll := sumN_le (r.prts.map Prt.cl) (i + 1)
      have rc := row_cc r
      refine ⟨tt, _, rfl, SqT.of upd_same, rfl, _, _, rfl, _, _, rfl, rfl, ?_⟩
      refine ⟨_, rfl, _, rfl, _, rfl, _, rfl, _, rfl, y, pp, deep, r.lp loops, t, c, co + r.co + sumN ((r.prts.map Prt.cc).take i), li + sumN ((r.prts.map Prt.cl).take i), rfl, dp_same sn2 hy2, by obtain ⟨dx, z⟩ := hta; exact ⟨dx, sn2 _ _ z⟩, okp, hd, by omega, by omega, fun H3 b3 ht3 => ⟨_, rfl, iteF ⟨_, _, rfl, ?_, ?_⟩⟩⟩
      · exact fun b o hb z => b3 b o hb (sn2 b o (bt b o hb z))
      · rw [sc, sl, ← Nat.add_assoc, ← Nat.add_assoc]
        exact ht3
    · rintro σ' H' ⟨_, _, rfl, bt, hta⟩
      have rc := row_cc r
      refine q H' (fun b o hb z => bt b o hb (sn b o (b1 b o hb z))) ?_
      rw [List.length_map, List.length_map, List.take_of_length_le (by simp), List.take_of_length_le (by simp)] at hta
      rw [rc, ← Nat.add_assoc]
      exact hta
end

end M

set_option Elab.async false
set_option linter.all false
set_option maxRecDepth 100000
set_option maxHeartbeats 2000000
namespace M
open PySem PySem.Spec PyProof.Rows L2

def rowsOkAt {c : Int} {deep loops : Nat} : ∀ {rs : List Row}, rowsOk c deep loops rs → ∀ r ∈ rs, deep ≤ 12 ∧ r.ok c deep loops
  | [], _, r, h => by cases h
  | a :: rs, h, r, hr => by
    have h : deep ≤ 12 ∧ a.ok c deep loops ∧ rowsOk c deep loops rs := h
    rcases List.mem_cons.mp hr with rfl | hr
    · exact ⟨h.1, h.2.1⟩
    · exact rowsOkAt h.2.2 r hr
theorem rowsCl_sum : ∀ rs : List Row, rowsCl rs = sumN (rs.map Row.cl)
  | [] => rfl
  | r :: rs => by rw [rowsCl, rowsCl_sum rs]; rfl
theorem rowsCc_sum : ∀ rs : List Row, rowsCc rs = sumN (rs.map Row.cc)
  | [] => rfl
  | r :: rs => by rw [rowsCc, rowsCc_sum rs]; rfl
section
variable {P : Program} {w : World} {K : PySem.W.Frag} {mg : Str → Option Value} {base : Heap}
theorem ca_are_body_rows {n : Nat} (R : Ca P w K mg base (3 * n + 12) "is_body_row" (spRow K n)) (T : Txt w K mg) : Ca P w K mg base (3 * n + 13) "are_body_rows" (spRows K (n + 1)) := by
    refine ca_of (N := ["rows", "deep", "loops", "tally", "row"]) (ps := ["rows", "deep", "loops", "tally"]) T.f_are_body_rows T.g_are_body_rows ⟨rfl, rfl, rfl, by decide +kernel, rfl, by decide +kernel, by decide +kernel⟩ (fun _ _ _ _ _ _ us hl => match us, hl with | [_, _, _, _], _ => rfl)
      (fun vs H Q E h => by obtain ⟨v, rs, deep, loops, t, c, co, li, rfl, hv, ht, ok, hd, hc, hl, q⟩ := h; rfl) (fun cdv A outer s H vs Q E hr h => ?_)
    have nd : (["rows", "deep", "loops", "tally", "row"] : List Str).Nodup := by decide +kernel
    obtain ⟨v, rs, deep, loops, t, c, co, li, rfl, hv, ht, ok, hd, hc, hl, q⟩ := h
    obtain ⟨a, xs, rfl, ha, hxs⟩ := dp_tup hv
    have lxs : xs.length = rs.length := by rw [dps_len hxs, rowsD_map, List.length_map]
    have ch : Ch H t := by obtain ⟨dx, z⟩ := ht; exact .ins z
    refine ⟨_, (pss_cons (ps_if (pt_not (pt_val (pe_is .tuple T.b_isinstance (pv 0) T.b_tuple boot_tuple))) (pss_one (ps_ret pe_bl)) pss_nil)
      (pss_cons (ps_for PassesOwn.never rfl (pi_tup (pv 0)) (pg_name (i := 4) nd rfl (.inl rfl)) (pss_cons (ps_fldaug (pv 3) pe_int in_add)
      (pss_one (ps_if (PW.pt (pw_or (pt_cmpR op_gt (pv 1) (pe_gi T.i_DEEPEST_ROW) (nomark _)) (pw_or (pt_cmpR op_gt (pe_fld (pv 3) rfl) (pe_gi T.i_MOST_ROWS) (nomark _)) (pw_or1 (pt_not (pt_val (pe_ca R hr (pa_cons (pv 4) (pa_cons (pv 1) (pa_cons (pv 2) (pa_cons (pv 3) pa_nil)))) (by omega)))))))) (pss_one (ps_ret pe_bl)) pss_nil))))
      (pss_one (ps_ret pe_bl)))), ?_⟩
    refine ⟨_, rfl, _, _, rfl, .tuple ha, _, rfl, iteF ?_⟩
    refine ⟨_, rfl, a, rfl, ⟨_, ha⟩, for_tup (xs := xs) (fun i σ' H' => ∃ x, σ' = [some (.ref a), some (.int deep), some (.int loops), some (.ref t), x] ∧ But t H H' ∧ TallyAt K H' t c ((co + sumN ((rs.map Row.cc).take i) : Nat) : Int) ((li + sumN ((rs.map Row.cl).take i) : Nat) : Int))
      ⟨none, rfl, fun b o _ z => z, ht⟩ (fun i σ' H' _ ⟨_, _, bt, _⟩ => sqT_but ch bt ha) ?_ ?_⟩
    · rintro i x σ' H' hx ⟨_, rfl, bt, hta⟩
      obtain ⟨dd, hdd, hxd⟩ := dps_get hxs hx
      rw [rowsD_map] at hdd
      obtain ⟨r, hr', rfl⟩ := get_mapA hdd
      have okr := rowsOkAt ok r (List.mem_of_getElem? hr')
      have ec : ((rs.map Row.cc)[i]?) = some r.cc := by rw [List.getElem?_map, hr']; rfl
      have el : ((rs.map Row.cl)[i]?) = some r.cl := by rw [List.getElem?_map, hr']; rfl
      have sc := sumN_take ec
      have sl := sumN_take el
      have lc := sumN_le (rs.map Row.cc) (i + 1)
      have ll := sumN_le (rs.map Row.cl) (i + 1)
      have rl := row_cl r
      have s1 := rowsCl_sum rs
      have s2 := rowsCc_sum rs
      have hx2 : Dp K H' x r.d := dp_but ch bt hxd r.noL
      obtain ⟨dx, hta'⟩ := id hta
      refine ⟨_, rfl, t, _, dx, _, _, rfl, hta', T.c_Tally, T.n_Tally_lines, tf_lines .., _, _, rfl, rfl, dx, _, hta', (by rw [tfl_eq]; show 3 < 1000; decide), ?_⟩
      rw [tf_putL]
      refine ⟨_, rfl, _, _, rfl, rfl, _, rfl, ?_⟩
      rw [decide_eq_false (show ¬ (12 : Int) < (deep : Int) from by omega)]
      refine iteF ⟨_, rfl, t, _, dx, _, _, rfl, upd_same, T.c_Tally, T.n_Tally_lines, tf_lines .., _, _, rfl, rfl, _, rfl, ?_⟩
      rw [decide_eq_false (show ¬ (2000 : Int) < ((li + sumN ((rs.map Row.cl).take i) : Nat) : Int) + 1 from by omega)]
      have ch' : Ch H' t := .ins hta'
      refine iteF ⟨_, rfl, _, rfl, _, rfl, _, rfl, x, r, deep, loops, t, c, co + sumN ((rs.map Row.cc).take i), li + sumN ((rs.map Row.cl).take i) + 1, rfl, dp_but ch' But.upd hx2 r.noL, ⟨dx, by rw [upd_same]; rfl⟩, okr.2, ⟨by omega, okr.1⟩, by omega, by omega, fun H3 b3 ht3 => ⟨_, rfl, iteF ⟨_, rfl, ?_, ?_⟩⟩⟩
      · exact fun b o hb z => b3 b o hb (by rw [upd_ne hb]; exact bt b o hb z)
      · rw [sc, sl, ← Nat.add_assoc, show li + (sumN ((rs.map Row.cl).take i) + r.cl) = li + sumN ((rs.map Row.cl).take i) + 1 + sumN (r.prts.map Prt.cl) from by omega]
        exact ht3
    · rintro σ' H' ⟨_, rfl, bt, hta⟩
      refine q H' bt ?_
      rw [lxs, List.take_of_length_le (by simp), List.take_of_length_le (by simp)] at hta
      rw [rowsCl_sum, rowsCc_sum]
      exact hta
theorem ca_rows (T : Txt w K mg) : ∀ n, Ca P w K mg base (3 * n + 10) "are_body_rows" (spRows K n)
  | 0 => ca_false (ps := ["rows", "deep", "loops", "tally"]) T.f_are_body_rows T.g_are_body_rows (fun _ _ _ _ _ _ us hl => match us, hl with | [_, _, _, _], _ => rfl)
  | n + 1 => ca_are_body_rows (ca_is_body_row (ca_is_part (ca_rows T n) T) T) T
def spBody (K : PySem.W.Frag) : Sp := fun vs H Q _ => ∃ (v : V) (rs : List Row) (c : Int), vs = [v, .int c] ∧ Dp K H v (.tuple (rowsD rs)) ∧ rowsOk c 1 0 rs ∧ rowsCc rs ≤ 4 ∧ rowsCl rs ≤ 2000 ∧ ∀ H', Same H H' → Q (.bl true) H'
theorem ca_is_body (T : Txt w K mg) : Ca P w K mg base 50 "is_body" (spBody K) := by
  refine ca_of (N := ["rows", "cells"]) (ps := ["rows", "cells"]) T.f_is_body T.g_is_body ⟨rfl, rfl, rfl, by decide +kernel, rfl, by decide +kernel, by decide +kernel⟩ (fun _ _ _ _ _ _ us hl => match us, hl with | [_, _], _ => rfl)
    (fun vs H Q E h => by obtain ⟨v, rs, c, rfl, hv, ok, hc, hl, q⟩ := h; rfl) (fun cdv A outer s H vs Q E hr h => ?_)
  have nd : (["rows", "cells"] : List Str).Nodup := by decide +kernel
  obtain ⟨v, rs, c, rfl, hv, ok, hc, hl, q⟩ := h
  refine ⟨_, pss_one (ps_ret (pe_ca (ca_rows T 13) hr (pa_cons (pv 0) (pa_cons pe_int (pa_cons pe_int (pa_cons (pe_ma (ma_Tally T) hr (pa_cons (pv 1) pa_nil)) pa_nil)))))), ?_⟩
  refine ⟨_, rfl, _, rfl, fun t dx nt nd ndt => ?_⟩
  have s0 : ∀ o : HO, Same H (upd (upd H dx (.own t)) t o) := fun o b u e => by
    rw [upd_ne (ne_of_none e nt), upd_ne (ne_of_none e nd)]
    exact e
  refine ⟨t, dx, c, rfl, upd_same, rfl, v, rs, 1, 0, t, c, 0, 0, rfl, ?_, ⟨dx, upd_same⟩, ok, (by decide), by omega, by omega, fun H' bt _ => ?_⟩
  · rw [upd_upd]
    exact dp_same (s0 _) hv
  · rw [upd_upd] at bt
    exact q H' fun b o e => bt b o (ne_of_none e nt) (s0 _ b o e)
end

end M

set_option Elab.async false
set_option linter.all false
set_option maxRecDepth 100000
set_option maxHeartbeats 2000000
namespace M
open PySem PySem.Spec PyProof.Rows L2

def CellOk (c : Int × Int) : Prop := 1 ≤ c.1 ∧ c.1 ≤ 9 ∧ 0 ≤ c.2 ∧ c.2 < c.1
def NameOk (s : Str) : Prop := 1 ≤ s.length ∧ s.length ≤ 8 ∧ ∀ c ∈ s.cps.toList, 97 ≤ c ∧ c ≤ 122
def DeedOk (c : Int) (d : Str × Int × List Row) : Prop := NameOk d.1 ∧ (1 ≤ d.2.1 ∧ d.2.1 ≤ 9) ∧ rowsOk c 1 0 d.2.2 ∧ rowsCc d.2.2 ≤ 4 ∧ rowsCl d.2.2 ≤ 2000
/-- what a vault is -/
structure VGood (v : Vlt) : Prop where
  c0 : 1 ≤ v.cells.length
  c1 : v.cells.length ≤ 6
  cs : ∀ c ∈ v.cells, CellOk c
  d0 : 1 ≤ v.deeds.length
  d1 : v.deeds.length ≤ 8
  ds : ∀ d ∈ v.deeds, DeedOk v.cells.length d
  nd : (v.deeds.map (·.1)).Nodup
theorem VGood.ok {v : Vlt} (g : VGood v) : VOk v := ⟨g.c1, g.d1, fun d hd => (g.ds d hd).2.1, g.nd⟩
theorem deed_noL (d : Str × Int × List Row) : NoL (deedD d) := .tup (by
  intro e h
  simp at h
  rcases h with rfl | rfl | rfl
  · exact .str _
  · exact .int _
  · exact .tup (rows_noL _))
theorem cell_noL (c : Int × Int) : NoL (cellD c) := .tup (by
  intro e h
  simp at h
  rcases h with rfl | rfl <;> constructor)
theorem sign_le {a c : Nat} (h : a ≤ c) : (!decide (([c] : List Nat) < [a])) = true := by
  have : ¬ (([c] : List Nat) < [a]) := by
    rw [List.cons_lt_cons_iff]
    rintro (h1 | ⟨_, h2⟩)
    · omega
    · exact absurd h2 (by simp)
  rw [decide_eq_false this]
  rfl
theorem Ch.ext {H : Hp} {D : Addr} {φ : Heap → Prop} (h : H D = some (.ext φ)) : Ch H D := ⟨fun _ e => (by rw [h] at e; cases e), fun _ _ e => (by rw [h] at e; cases e)⟩
theorem if_true_of {c : Bool} {A B : Prop} (hc : c = true) (h : A) : if c = true then A else B := by
  rw [if_pos hc]
  exact h
theorem if_not_of {c : Bool} {A B : Prop} (hc : c = true) (h : B) : if (!c) = true then A else B := by
  rw [hc]
  exact iteF h
section
variable {P : Program} {w : World} {K : PySem.W.Frag} {mg : Str → Option Value} {base : Heap}
def spCell (K : PySem.W.Frag) : Sp := fun vs H Q _ => ∃ (v : V) (c : Int × Int), vs = [v] ∧ Dp K H v (cellD c) ∧ CellOk c ∧ Q (.bl true) H
theorem ca_is_cell (T : Txt w K mg) : Ca P w K mg base 3 "is_cell" (spCell K) := by
  refine ca_of (N := ["value"]) (ps := ["value"]) T.f_is_cell T.g_is_cell ⟨rfl, rfl, rfl, by decide +kernel, rfl, by decide +kernel, by decide +kernel⟩ (fun _ _ _ _ _ _ us hl => match us, hl with | [_], _ => rfl)
    (fun vs H Q E h => by obtain ⟨v, c, rfl, hv, ok, q⟩ := h; rfl) (fun cdv A outer s H vs Q E hr h => ?_)
  have nd : (["value"] : List Str).Nodup := by decide +kernel
  obtain ⟨v, c, rfl, hv, ok, q⟩ := h
  refine ⟨_, (pss_one (ps_ret (pe_and (pe_ca (ca_is_tuple T) hr (pa_cons (pv 0) (pa_cons pe_int pa_nil))) (pe_and (pe_ca (ca_is_within T) hr (pa_cons (pe_ix ix_tup (pv 0) pe_int (fun _ _ => rfl)) (pa_cons pe_int (pa_cons (pe_gi T.i_GREATEST_SIZE) pa_nil)))) (pe_one (pe_ca (ca_is_within T) hr (pa_cons (pe_ix ix_tup (pv 0) pe_int (fun _ _ => rfl)) (pa_cons pe_int (pa_cons (pe_op op_sub (pe_ix ix_tup (pv 0) pe_int (fun _ _ => rfl)) pe_int) pa_nil))))))))), ?_⟩
  obtain ⟨a, x, y, rfl, ha, hx, hy⟩ := dp2 hv
  cases dp_int hx
  cases dp_int hy
  obtain ⟨o1, o2, o3, o4⟩ := ok
  refine ⟨_, rfl, a, _, _, rfl, ha, _, rfl, iteT ?_⟩
  refine ⟨_, rfl, _, _, _, _, rfl, rfl, ha, at0, c.1, 1, 9, rfl, _, rfl, ?_⟩
  rw [within_t ⟨o1, o2⟩]
  refine iteT ⟨_, rfl, _, _, _, _, rfl, rfl, ha, at1, _, rfl, _, _, _, _, rfl, rfl, ha, at0, _, _, rfl, rfl, c.2, 0, c.1 - 1, rfl, ?_⟩
  rw [within_t ⟨o3, by omega⟩]
  exact q
def spCells (K : PySem.W.Frag) : Sp := fun vs H Q _ => ∃ (a : Addr) (xs : List V) (cs : List (Int × Int)), vs = [.ref a] ∧ SqL K H a xs ∧ DpAll K H xs (cs.map cellD) ∧ 1 ≤ cs.length ∧ cs.length ≤ 6 ∧ (∀ c ∈ cs, CellOk c) ∧ Q (.bl true) H
theorem ca_are_cells (T : Txt w K mg) : Ca P w K mg base 4 "are_cells" (spCells K) := by
  refine ca_of (N := ["cells", "cell"]) (ps := ["cells"]) T.f_are_cells T.g_are_cells ⟨rfl, rfl, rfl, by decide +kernel, rfl, by decide +kernel, by decide +kernel⟩ (fun _ _ _ _ _ _ us hl => match us, hl with | [_], _ => rfl)
    (fun vs H Q E h => by obtain ⟨a, xs, cs, rfl, ha, hxs, h1, h6, ok, q⟩ := h; rfl) (fun cdv A outer s H vs Q E hr h => ?_)
  have nd : (["cells", "cell"] : List Str).Nodup := by decide +kernel
  obtain ⟨a, xs, cs, rfl, ha, hxs, h1, h6, ok, q⟩ := h
  have lx : xs.length = cs.length := by rw [dps_len hxs, List.length_map]
  refine ⟨_, (pss_cons (ps_if (pt_not (pt_chain op_le op_le pe_int (pe_callB call_len_seq (by rfl) T.b_len PySem.boot_len (pa_cons (pv 0) pa_nil)) (pe_gi T.i_MOST_CELLS))) (pss_one (ps_ret pe_bl)) pss_nil)
      (pss_cons (ps_for PassesOwn.never rfl (pi_list (pv 0)) (pg_name (i := 1) nd rfl (.inl rfl)) (pss_one (ps_if (pt_not (pt_val (pe_ca (ca_is_cell T) hr (pa_cons (pv 1) pa_nil)))) (pss_one (ps_ret pe_bl)) pss_nil)))
      (pss_one (ps_ret pe_bl)))), ?_⟩
  refine ⟨_, rfl, _, _, rfl, .inl ha, _, _, rfl, rfl, _, rfl, ?_⟩
  rw [lx, decide_eq_true (show (1 : Int) ≤ (cs.length : Int) from by omega)]
  refine iteT ⟨_, _, rfl, rfl, _, rfl, ?_⟩
  rw [decide_eq_true (show (cs.length : Int) ≤ 6 from by omega)]
  refine iteF ⟨_, rfl, a, rfl, ⟨_, ha⟩, for_list (xs := xs) (fun i σ' H' => ∃ x, σ' = [some (.ref a), x] ∧ H' = H) ⟨none, rfl, rfl⟩ (fun i σ' H' _ ⟨_, _, e⟩ => e ▸ ha) ?_ ?_⟩
  · rintro i x σ' H' hx ⟨_, rfl, rfl⟩
    obtain ⟨d, hd, hxd⟩ := dps_get hxs hx
    obtain ⟨c, hc, rfl⟩ := get_mapA hd
    exact ⟨_, rfl, x, c, rfl, hxd, ok c (List.mem_of_getElem? hc), _, rfl, iteF ⟨_, rfl, rfl⟩⟩
  · rintro σ' H' ⟨_, rfl, rfl⟩
    exact q
def spName : Sp := fun vs H Q _ => ∃ (s : Str), vs = [.str s] ∧ NameOk s ∧ Q (.bl true) H
theorem ca_is_name (T : Txt w K mg) : Ca P w K mg base 1 "is_name" (spName) := by
  refine ca_of (N := ["value", "letter"]) (ps := ["value"]) T.f_is_name T.g_is_name ⟨rfl, rfl, rfl, by decide +kernel, rfl, by decide +kernel, by decide +kernel⟩ (fun _ _ _ _ _ _ us hl => match us, hl with | [_], _ => rfl)
    (fun vs H Q E h => by obtain ⟨s, rfl, ok, q⟩ := h; rfl) (fun cdv A outer s H vs Q E hr h => ?_)
  have nd : (["value", "letter"] : List Str).Nodup := by decide +kernel
  obtain ⟨s, rfl, ok, q⟩ := h
  refine ⟨_, (pss_cons (ps_if (PW.pt (pw_or (pt_not (pt_val (pe_is .str T.b_isinstance (pv 0) T.b_str boot_str))) (pw_or1 (pt_not (pt_chain op_le op_le pe_int (pe_callB call_len_str (by rfl) T.b_len PySem.boot_len (pa_cons (pv 0) pa_nil)) (pe_gi T.i_LONGEST_NAME)))))) (pss_one (ps_ret pe_bl)) pss_nil)
      (pss_cons (ps_for PassesOwn.never rfl (pi_str (pv 0)) (pg_name (i := 1) nd rfl (.inl rfl)) (pss_one (ps_if (pt_not (pt_chain op_le_str op_le_str pe_str (pv 1) pe_str)) (pss_one (ps_ret pe_bl)) pss_nil)))
      (pss_one (ps_ret pe_bl)))), ?_⟩
  refine ⟨_, rfl, _, _, rfl, .str s, _, rfl, iteF ?_⟩
  have l8 := ok.2.1
  refine ⟨_, rfl, _, rfl, by rw [sizeLine_eq]; omega, _, _, rfl, rfl, _, rfl, ?_⟩
  rw [decide_eq_true (show (1 : Int) ≤ (s.length : Int) from by have := ok.1; omega)]
  refine iteT ⟨_, _, rfl, rfl, _, rfl, ?_⟩
  rw [decide_eq_true (show (s.length : Int) ≤ 8 from by omega)]
  refine iteF ⟨_, rfl, _, rfl, for_it (n := s.cps.size) walk_str (fun i σ' H' => ∃ x, σ' = [some (.str s), x] ∧ H' = H) ⟨none, rfl, rfl⟩ (fun _ _ _ _ _ => trivial) ?_ ?_⟩
  · rintro i x σ' H' H2 hi ⟨_, rfl, rfl⟩ ⟨rfl, c, hc, rfl⟩
    have hm : c ∈ s.cps.toList := by
      rw [← Array.getElem?_toList] at hc
      exact List.mem_of_getElem? hc
    have b := ok.2.2 c hm
    refine ⟨_, rfl, _, _, rfl, rfl, _, rfl, ?_⟩
    refine (if_true_of (sign_le b.1) ?_)
    refine ⟨_, _, rfl, rfl, _, rfl, ?_⟩
    refine if_not_of (sign_le b.2) ⟨_, rfl, rfl⟩
  · rintro σ' H' ⟨_, rfl, rfl⟩
    exact q
theorem cut2 (x y z : V) : cutV [x, y, z] none (some 2) = [x, y] := by
  unfold cutV
  rw [show (some (2 : Int)) = some ((2 : Nat) : Int) from rfl, HT.sIx_nat, HT.sIx_none]
  rfl
theorem cut2_not (x y z : V) : ¬ (HT.sIx [x, y, z].length 0 none = 0 ∧ HT.sIx [x, y, z].length [x, y, z].length (some 2) = [x, y, z].length) := by
  rw [show (some (2 : Int)) = some ((2 : Nat) : Int) from rfl, HT.sIx_nat]
  intro h
  exact absurd h.2 (by show ¬ (min 2 3 = 3); decide)
def spHead (K : PySem.W.Frag) : Sp := fun vs H Q _ => ∃ (v : V) (nm : Str) (ch : Int), vs = [v] ∧ Dp K H v (.tuple [.str nm, .int ch]) ∧ NameOk nm ∧ (1 ≤ ch ∧ ch ≤ 9) ∧ Q (.bl true) H
theorem ca_is_deed_head (T : Txt w K mg) : Ca P w K mg base 3 "is_deed_head" (spHead K) := by
  refine ca_of (N := ["value"]) (ps := ["value"]) T.f_is_deed_head T.g_is_deed_head ⟨rfl, rfl, rfl, by decide +kernel, rfl, by decide +kernel, by decide +kernel⟩ (fun _ _ _ _ _ _ us hl => match us, hl with | [_], _ => rfl)
    (fun vs H Q E h => by obtain ⟨v, nm, ch, rfl, hv, o1, o2, q⟩ := h; rfl) (fun cdv A outer s H vs Q E hr h => ?_)
  have nd : (["value"] : List Str).Nodup := by decide +kernel
  obtain ⟨v, nm, ch, rfl, hv, o1, o2, q⟩ := h
  refine ⟨_, (pss_one (ps_ret (pe_and (pe_ca (ca_is_tuple T) hr (pa_cons (pv 0) (pa_cons pe_int pa_nil))) (pe_and (pe_ca (ca_is_name T) hr (pa_cons (pe_ix ix_tup (pv 0) pe_int (fun _ _ => rfl)) pa_nil)) (pe_one (pe_ca (ca_is_within T) hr (pa_cons (pe_ix ix_tup (pv 0) pe_int (fun _ _ => rfl)) (pa_cons pe_int (pa_cons (pe_gi T.i_MOST_CHOICES) pa_nil))))))))), ?_⟩
  obtain ⟨a, x, y, rfl, ha, hx, hy⟩ := dp2 hv
  cases dp_str hx
  cases dp_int hy
  refine ⟨_, rfl, a, _, _, rfl, ha, _, rfl, iteT ?_⟩
  refine ⟨_, rfl, _, _, _, _, rfl, rfl, ha, at0, nm, rfl, o1, _, rfl, iteT ?_⟩
  refine ⟨_, rfl, _, _, _, _, rfl, rfl, ha, at1, ch, 1, 9, rfl, ?_⟩
  rw [within_t o2]
  exact q
def spDeed (K : PySem.W.Frag) : Sp := fun vs H Q _ => ∃ (v : V) (d : Str × Int × List Row) (c : Int), vs = [v, .int c] ∧ Dp K H v (deedD d) ∧ DeedOk c d ∧ ∀ H', Same H H' → Q (.bl true) H'
theorem ca_is_deed (T : Txt w K mg) : Ca P w K mg base 51 "is_deed" (spDeed K) := by
  refine ca_of (N := ["value", "cells"]) (ps := ["value", "cells"]) T.f_is_deed T.g_is_deed ⟨rfl, rfl, rfl, by decide +kernel, rfl, by decide +kernel, by decide +kernel⟩ (fun _ _ _ _ _ _ us hl => match us, hl with | [_, _], _ => rfl)
    (fun vs H Q E h => by obtain ⟨v, d, c, rfl, hv, ok, q⟩ := h; rfl) (fun cdv A outer s H vs Q E hr h => ?_)
  have nd : (["value", "cells"] : List Str).Nodup := by decide +kernel
  obtain ⟨v, d, c, rfl, hv, ok, q⟩ := h
  refine ⟨_, (pss_one (ps_ret (pe_and (pe_ca (ca_is_tuple T) hr (pa_cons (pv 0) (pa_cons pe_int pa_nil))) (pe_and (pe_ca (ca_is_deed_head T) hr (pa_cons (pe_slice sl_tup (pv 0) po_none (po_some pe_int)) pa_nil)) (pe_one (pe_ca (ca_is_body T) hr (pa_cons (pe_ix ix_tup (pv 0) pe_int (fun _ _ => rfl)) (pa_cons (pv 1) pa_nil)))))))), ?_⟩
  obtain ⟨a, x, y, z, rfl, ha, hx, hy, hz⟩ := dp3 hv
  cases dp_str hx
  cases dp_int hy
  obtain ⟨o1, o2, o3, o4, o5⟩ := ok
  refine ⟨_, rfl, a, _, _, rfl, ha, _, rfl, iteT ?_⟩
  refine ⟨_, rfl, _, rfl, a, _, rfl, ha, cut2_not _ _ _, fun p np => ?_⟩
  rw [cut2]
  have s1 := same_new (o := .tup [.str d.1, .int d.2.1]) np
  refine ⟨_, d.1, d.2.1, rfl, .tup (.of upd_same) (.cons (.str _) (.cons (.int _) .nil)), o1, o2, _, rfl, iteT ?_⟩
  exact ⟨_, rfl, _, _, _, _, rfl, rfl, same_t s1 ha, at2, _, rfl, z, d.2.2, c, rfl, dp_same s1 hz, o3, o4, o5, fun H2 s2 => q H2 (s1.trans s2)⟩
def spDeeds (K : PySem.W.Frag) : Sp := fun vs H Q _ => ∃ (a : Addr) (xs : List V) (ds : List (Str × Int × List Row)) (c : Int), vs = [.ref a, .int c] ∧ SqL K H a xs ∧ DpAll K H xs (ds.map deedD) ∧ 1 ≤ ds.length ∧ ds.length ≤ 8 ∧ (∀ d ∈ ds, DeedOk c d) ∧ (ds.map (·.1)).Nodup ∧ ∀ H', Same H H' → Q (.bl true) H'
theorem ca_are_deeds (T : Txt w K mg) : Ca P w K mg base 52 "are_deeds" (spDeeds K) := by
  refine ca_of (N := ["deeds", "cells", "taken", "deed"]) (ps := ["deeds", "cells"]) T.f_are_deeds T.g_are_deeds ⟨rfl, rfl, rfl, by decide +kernel, rfl, by decide +kernel, by decide +kernel⟩ (fun _ _ _ _ _ _ us hl => match us, hl with | [_, _], _ => rfl)
    (fun vs H Q E h => by obtain ⟨a, xs, ds, c, rfl, ha, hxs, h1, h8, ok, nds, q⟩ := h; rfl) (fun cdv A outer s H vs Q E hr h => ?_)
  have nd : (["deeds", "cells", "taken", "deed"] : List Str).Nodup := by decide +kernel
  obtain ⟨a, xs, ds, c, rfl, ha, hxs, h1, h8, ok, nds, q⟩ := h
  have lx : xs.length = ds.length := by rw [dps_len hxs, List.length_map]
  refine ⟨_, (pss_cons (ps_if (pt_not (pt_chain op_le op_le pe_int (pe_callB call_len_seq (by rfl) T.b_len PySem.boot_len (pa_cons (pv 0) pa_nil)) (pe_gi T.i_MOST_DEEDS))) (pss_one (ps_ret pe_bl)) pss_nil)
      (pss_cons (ps_set (i := 2) nd rfl (.inl rfl) (pe_callTy0 cr_set0K (by rfl) T.b_set boot_set))
      (pss_cons (ps_for PassesOwn.never rfl (pi_list (pv 0)) (pg_name (i := 3) nd rfl (.inl rfl)) (pss_cons (ps_if (PW.pt (pw_or (pt_not (pt_val (pe_ca (ca_is_deed T) hr (pa_cons (pv 3) (pa_cons (pv 1) pa_nil))))) (pw_or1 (pt_cmpR or_sinK (pe_ix ix_tup (pv 3) pe_int (fun _ _ => rfl)) (pv 2) (by rfl))))) (pss_one (ps_ret pe_bl)) pss_nil)
      (pss_one (ps_expr (pe_saddK (pv 2) (pa_cons (pe_ix ix_tup (pv 3) pe_int (fun _ _ => rfl)) pa_nil))))))
      (pss_one (ps_ret pe_bl))))), ?_⟩
  refine ⟨_, rfl, _, _, rfl, .inl ha, _, _, rfl, rfl, _, rfl, ?_⟩
  rw [lx, decide_eq_true (show (1 : Int) ≤ (ds.length : Int) from by omega)]
  refine iteT ⟨_, _, rfl, rfl, _, rfl, ?_⟩
  rw [decide_eq_true (show (ds.length : Int) ≤ 8 from by omega)]
  refine iteF ⟨rfl, fun p np => ?_⟩
  have s0 : Same H (upd H p (SetK P w p (fun _ => false) 0)) := same_new np
  have mem : ∀ (i : Nat) (H' : Hp), But p (upd H p (SetK P w p (fun _ => false) 0)) H' → SqL K H' a xs := fun i H' bt => (show Same H H' from fun b o e => bt b o (ne_of_none e np) (s0 b o e)).seq ha
  refine ⟨_, rfl, a, rfl, ⟨_, s0.seq ha⟩, for_list (xs := xs) (fun i σ' H' => ∃ (x : Option V) (S : L2.Key → Bool) (n : Nat), σ' = [some (.ref a), some (.int c), some (.ref p), x] ∧ But p (upd H p (SetK P w p (fun _ => false) 0)) H' ∧ H' p = some (SetK P w p S n) ∧ n ≤ i ∧ ∀ k, S k = true → ∃ d ∈ ds.take i, k = Sum.inr d.1)
    ⟨none, fun _ => false, 0, rfl, fun b o _ z => z, upd_same, Nat.le_refl _, fun k e => by cases e⟩ (fun i σ' H' _ ⟨_, _, _, _, bt, _⟩ => mem i H' bt) ?_ ?_⟩
  · rintro i x σ' H' hx ⟨_, S, n, rfl, bt, hp, hn, hS⟩
    have sH : Same H H' := fun b o e => bt b o (ne_of_none e np) (s0 b o e)
    obtain ⟨d, hd, hxd⟩ := dps_get hxs hx
    obtain ⟨dd, hdd, rfl⟩ := get_mapA hd
    have hi : i < ds.length := (List.getElem?_eq_some_iff.mp hdd).1
    refine ⟨_, rfl, _, rfl, x, dd, c, rfl, dp_same sH hxd, ok dd (List.mem_of_getElem? hdd), fun H2 s2 => ⟨_, rfl, iteF ?_⟩⟩
    obtain ⟨t, y1, y2, y3, rfl, ht, e1, e2, e3⟩ := dp3 (dp_same (sH.trans s2) hxd)
    cases dp_str e1
    have hSf : S (Sum.inr dd.1) = false := by
      cases e : S (Sum.inr dd.1) with
      | false => rfl
      | true =>
        obtain ⟨d', hd', ed⟩ := hS _ e
        obtain ⟨j, hj, ej⟩ := List.mem_iff_getElem.mp hd'
        rw [List.length_take] at hj
        rw [List.getElem_take] at ej
        have n1 : (ds.map (·.1))[i]? = some dd.1 := by rw [List.getElem?_map, hdd]; rfl
        have n2 : (ds.map (·.1))[j]? = some dd.1 := by
          rw [List.getElem?_map, List.getElem?_eq_getElem (by omega : j < ds.length), ej]
          exact congrArg some (Sum.inr.inj ed).symm
        have := nd_ix nds n1 n2
        omega
    refine ⟨_, rfl, _, _, _, _, rfl, rfl, ht, at0, _, rfl, Sum.inr dd.1, p, S, n, rfl, rfl, s2 _ _ hp, _, rfl, ?_⟩
    rw [hSf]
    refine iteF ⟨_, rfl, ⟨p, S, n, rfl, s2 _ _ hp⟩, _, rfl, _, _, _, _, rfl, rfl, ht, at0, p, Sum.inr dd.1, S, n, rfl, rfl, s2 _ _ hp, (by show n + 1 < 4096; omega), ?_⟩
    refine ⟨_, _, _, rfl, fun b o hb z => ?_, upd_same, ?_, fun k e => ?_⟩
    · rw [upd_ne hb]
      exact s2 b o (bt b o hb z)
    · rw [hSf]
      show n + 1 ≤ i + 1
      omega
    · rw [take_more hdd]
      rcases Bool.or_eq_true_iff.mp e with h | h
      · obtain ⟨d', hd', e'⟩ := hS k h
        exact ⟨d', List.mem_append_left _ hd', e'⟩
      · exact ⟨dd, List.mem_append_right _ List.mem_cons_self, of_decide_eq_true h⟩
  · rintro σ' H' ⟨_, S, n, rfl, bt, hp, _⟩
    exact q H' fun b o e => bt b o (ne_of_none e np) (s0 b o e)
end

end M

set_option Elab.async false
set_option linter.all false
set_option maxRecDepth 100000
set_option maxHeartbeats 2000000
namespace M
open PySem PySem.Spec PyProof.Rows L2

/-! ### codes: no hole is left, their size -/
def FR.hd : FR → Option Str
  | .row r => some r.word
  | .unless _ _ => some "unless"
  | .on _ => some "on"
  | .rounds _ => some "rounds"
  | .round _ => some "round"
  | .hole => none
def FR.tl : FR → List PyData
  | .row r => r.prts.map Prt.d
  | .unless e p => [e.d, .int p]
  | .on p => [.int p]
  | .rounds e => [e.d]
  | .round p => [.int p]
  | .hole => []
theorem fr_d : ∀ {f : FR} {s : Str}, f.hd = some s → f.d = .tuple (.str s :: f.tl)
  | .row r, s, h => by
    cases (Option.some.inj h)
    exact row_d r
  | .hole, s, h => by cases h
  | .unless e p, s, h => by
    cases (Option.some.inj h)
    rfl
  | .on p, s, h => by
    cases (Option.some.inj h)
    rfl
  | .rounds e, s, h => by
    cases (Option.some.inj h)
    rfl
  | .round p, s, h => by
    cases (Option.some.inj h)
    rfl
/-- c' goes on from c, nothing new is a hole, n more at most -/
structure Goes (c c' : List FR) (n : Nat) : Prop where
  le : c.length ≤ c'.length
  old : ∀ i, i < c.length → c'[i]? = c[i]?
  new : ∀ i f, c.length ≤ i → c'[i]? = some f → f.hd ≠ none
  sz : c'.length ≤ c.length + n
theorem goes_one {c : List FR} {f : FR} {n : Nat} (h : f.hd ≠ none) (hn : 1 ≤ n) : Goes c (c ++ [f]) n := by
  refine ⟨by simp, fun i hi => List.getElem?_append_left hi, fun i g hi e => ?_, by simp; omega⟩
  rw [List.getElem?_append_right hi] at e
  cases q : i - c.length with
  | zero =>
    rw [q] at e
    cases (Option.some.inj e)
    exact h
  | succ m =>
    rw [q] at e
    simp at e
mutual
theorem putRow_goes : ∀ (r : Row) (c : List FR), Goes c (putRow r c) (3 * r.cl)
  | .read r k, c => goes_one (by simp [FR.hd]) (by simp [Row.cl])
  | .set k e, c => goes_one (by simp [FR.hd]) (by simp [Row.cl])
  | .swap r k e f, c => goes_one (by simp [FR.hd]) (by simp [Row.cl])
  | .keep r e, c => goes_one (by simp [FR.hd]) (by simp [Row.cl])
  | .coin r, c => goes_one (by simp [FR.hd]) (by simp [Row.cl])
  | .ans e, c => goes_one (by simp [FR.hd]) (by simp [Row.cl])
  | .iff e a b, c => by
    have g1 := putRows_goes a (c ++ [FR.hole])
    generalize h1 : putRows a (c ++ [FR.hole]) = c1 at g1
    have g2 := putRows_goes b ((c1 ++ [FR.hole]).set c.length (FR.unless e (c1.length + 1)))
    generalize h2 : putRows b ((c1 ++ [FR.hole]).set c.length (FR.unless e (c1.length + 1))) = c2 at g2
    have e0 : putRow (.iff e a b) c = c2.set c1.length (FR.on c2.length) := by
      show (putRows b (((putRows a (c ++ [FR.hole])) ++ [FR.hole]).set c.length (FR.unless e ((putRows a (c ++ [FR.hole])).length + 1)))).set (putRows a (c ++ [FR.hole])).length (FR.on (putRows b (((putRows a (c ++ [FR.hole])) ++ [FR.hole]).set c.length (FR.unless e ((putRows a (c ++ [FR.hole])).length + 1)))).length) = _
      rw [h1, h2]
    rw [e0]
    have l1 := g1.le
    have z1 := g1.sz
    have l2 := g2.le
    have z2 := g2.sz
    simp only [List.length_append, List.length_set, List.length_cons, List.length_nil] at l1 z1 l2 z2
    have ecl : Row.cl (.iff e a b) = 1 + (rowsCl a + rowsCl b) := rfl
    refine ⟨by rw [List.length_set]; omega, fun i hi => ?_, fun i f hi ef => ?_, by rw [List.length_set, ecl]; omega⟩
    · rw [List.getElem?_set_ne (by omega), g2.old i (by simp; omega), List.getElem?_set_ne (by omega), List.getElem?_append_left (by omega), g1.old i (by simp; omega), List.getElem?_append_left hi]
    · by_cases q : i = c1.length
      · subst q
        rw [List.getElem?_set_self (by omega)] at ef
        cases (Option.some.inj ef)
        simp [FR.hd]
      · rw [List.getElem?_set_ne (by omega)] at ef
        by_cases q2 : i < c1.length + 1
        · rw [g2.old i (by simp; omega)] at ef
          by_cases q3 : i = c.length
          · subst q3
            rw [List.getElem?_set_self (by simp; omega)] at ef
            cases (Option.some.inj ef)
            simp [FR.hd]
          · rw [List.getElem?_set_ne (by omega), List.getElem?_append_left (by omega)] at ef
            exact g1.new i f (by simp; omega) ef
        · exact g2.new i f (by simp; omega) ef
  | .times e a, c => by
    have g1 := putRows_goes a (c ++ [FR.rounds e, FR.hole])
    generalize h1 : putRows a (c ++ [FR.rounds e, FR.hole]) = c1 at g1
    have e0 : putRow (.times e a) c = (c1 ++ [FR.on (c.length + 1)]).set (c.length + 1) (FR.round (c1.length + 1)) := by
      show ((putRows a (c ++ [FR.rounds e, FR.hole])) ++ [FR.on (c.length + 1)]).set (c.length + 1) (FR.round ((putRows a (c ++ [FR.rounds e, FR.hole])).length + 1)) = _
      rw [h1]
    rw [e0]
    have l1 := g1.le
    have z1 := g1.sz
    simp only [List.length_append, List.length_set, List.length_cons, List.length_nil] at l1 z1
    have ecl : Row.cl (.times e a) = 1 + rowsCl a := rfl
    refine ⟨by simp; omega, fun i hi => ?_, fun i f hi ef => ?_, by simp [ecl]; omega⟩
    · rw [List.getElem?_set_ne (by omega), List.getElem?_append_left (by omega), g1.old i (by simp; omega), List.getElem?_append_left hi]
    · by_cases q : i = c.length + 1
      · subst q
        rw [List.getElem?_set_self (by simp; omega)] at ef
        cases (Option.some.inj ef)
        simp [FR.hd]
      · rw [List.getElem?_set_ne (by omega)] at ef
        by_cases q2 : i < c1.length
        · rw [List.getElem?_append_left q2] at ef
          by_cases q3 : i = c.length
          · subst q3
            rw [g1.old _ (by simp), List.getElem?_append_right (Nat.le_refl _), Nat.sub_self] at ef
            cases (Option.some.inj ef)
            simp [FR.hd]
          · exact g1.new i f (by simp; omega) ef
        · rw [List.getElem?_append_right (by omega)] at ef
          cases q4 : i - c1.length with
          | zero =>
            rw [q4] at ef
            cases (Option.some.inj ef)
            simp [FR.hd]
          | succ m =>
            rw [q4] at ef
            simp at ef
theorem putRows_goes : ∀ (rs : List Row) (c : List FR), Goes c (putRows rs c) (3 * rowsCl rs)
  | [], c => ⟨Nat.le_refl _, fun _ _ => rfl, fun i f hi e => by
    have := (List.getElem?_eq_some_iff.mp e).1
    change i < c.length at this
    omega, Nat.le_add_right _ _⟩
  | r :: rs, c => by
    have g1 := putRow_goes r c
    have g2 := putRows_goes rs (putRow r c)
    have ecl : rowsCl (r :: rs) = r.cl + rowsCl rs := rfl
    have l1 := g1.le
    have z1 := g1.sz
    have l2 := g2.le
    have z2 := g2.sz
    refine ⟨by show c.length ≤ (putRows rs (putRow r c)).length; omega, fun i hi => ?_, fun i f hi e => ?_, by show (putRows rs (putRow r c)).length ≤ _; rw [ecl]; omega⟩
    · show (putRows rs (putRow r c))[i]? = _
      rw [g2.old i (by omega), g1.old i hi]
    · change (putRows rs (putRow r c))[i]? = some f at e
      by_cases q : i < (putRow r c).length
      · rw [g2.old i q] at e
        exact g1.new i f hi e
      · exact g2.new i f (by omega) e
end
theorem code_hd {rows : List Row} {f : FR} (h : f ∈ codeOf rows) : ∃ s, f.hd = some s := by
  have g := putRows_goes rows []
  have : f.hd ≠ none := by
    rcases List.mem_append.mp h with h | h
    · obtain ⟨i, hi, e⟩ := List.mem_iff_getElem.mp h
      exact g.new i f (Nat.zero_le _) (by rw [List.getElem?_eq_getElem hi, e])
    · rw [List.mem_singleton.mp h]
      simp [FR.hd]
  cases q : f.hd with
  | none => exact absurd q this
  | some s => exact ⟨s, rfl⟩
theorem code_len (rows : List Row) : (codeOf rows).length ≤ 3 * rowsCl rows + 1 := by
  have g := (putRows_goes rows []).sz
  simp [codeOf] at g ⊢
  omega

end M

set_option Elab.async false
set_option linter.all false
set_option maxRecDepth 100000
set_option maxHeartbeats 2000000
namespace M
open PySem PySem.Spec PyProof.Rows L2

theorem putRows_snoc : ∀ (as : List Row) (r : Row) (c : List FR), putRows (as ++ [r]) c = putRow r (putRows as c)
  | [], r, c => rfl
  | a :: as, r, c => putRows_snoc as r (putRow a c)
theorem frs_noL (c : List FR) : ∀ d ∈ c.map FR.d, NoL d := fun d h => by
  obtain ⟨f, _, rfl⟩ := List.mem_map.mp h
  exact f.noL
theorem rowsCl_take {rs : List Row} {i : Nat} {r : Row} (h : rs[i]? = some r) : rowsCl (rs.take i) + r.cl ≤ rowsCl rs := by
  rw [rowsCl_sum, rowsCl_sum, List.map_take]
  have e : ((rs.map Row.cl)[i]?) = some r.cl := by rw [List.getElem?_map, h]; rfl
  have := sumN_take e
  have := sumN_le (rs.map Row.cl) (i + 1)
  omega
theorem word_if {r : Row} (h : r.word = "if") : ∃ e a b, r = .iff e a b := by
  cases r with
  | read r c => exact absurd (show ("read" : Str) = "if" from h) (by decide +kernel)
  | set c e => exact absurd (show ("set" : Str) = "if" from h) (by decide +kernel)
  | swap r c e f => exact absurd (show ("swap" : Str) = "if" from h) (by decide +kernel)
  | keep r e => exact absurd (show ("keep" : Str) = "if" from h) (by decide +kernel)
  | coin r => exact absurd (show ("coin" : Str) = "if" from h) (by decide +kernel)
  | iff e a b => exact ⟨e, a, b, rfl⟩
  | times e a => exact absurd (show ("times" : Str) = "if" from h) (by decide +kernel)
  | ans e => exact absurd (show ("answer" : Str) = "if" from h) (by decide +kernel)
theorem putRow_plain {r : Row} (c : List FR) (h1 : r.word ≠ "if") (h2 : r.word ≠ "times") : putRow r c = c ++ [.row r] := by
  cases r <;> first | rfl | exact absurd rfl h1 | exact absurd rfl h2
section
variable {P : Program} {w : World} {K : PySem.W.Frag} {mg : Str → Option Value} {base : Heap}
/-- what put_rows and its kin leave: the list goes on -/
abbrev PutQ (K : PySem.W.Frag) (H : Hp) (l : Addr) (c' : List FR) (Q : VK) : Prop := ∀ H' ys', But l H H' → H' l = some (.lst ys') → DpAll K H' ys' (c'.map FR.d) → Q .non H'
def spPuts (K : PySem.W.Frag) : Nat → Sp
  | 0 => fun _ _ _ _ => False
  | n + 1 => fun vs H Q _ => ∃ (l : Addr) (v : V) (ys : List V) (c : List FR) (rs : List Row) (k : Int) (deep loops : Nat), vs = [.ref l, v] ∧ H l = some (.lst ys) ∧ DpAll K H ys (c.map FR.d) ∧ Dp K H v (.tuple (rowsD rs)) ∧ rowsOk k deep loops rs ∧ 14 ≤ deep + (n + 1) ∧ c.length + 3 * rowsCl rs ≤ 90000 ∧ PutQ K H l (putRows rs c) Q
def spPut1 (K : PySem.W.Frag) (n : Nat) (wd : Str) : Sp := fun vs H Q _ => ∃ (l : Addr) (v : V) (ys : List V) (c : List FR) (r : Row) (k : Int) (deep loops : Nat), vs = [.ref l, v] ∧ H l = some (.lst ys) ∧ DpAll K H ys (c.map FR.d) ∧ Dp K H v r.d ∧ r.word = wd ∧ (r.ok k deep loops ∧ deep ≤ 12) ∧ 14 ≤ deep + (n + 1) ∧ c.length + 3 * r.cl ≤ 90000 ∧ PutQ K H l (putRow r c) Q
theorem ca_put_if {n : Nat} (R : Ca P w K mg base (2 * n + 1) "put_rows" (spPuts K n)) (T : Txt w K mg) : Ca P w K mg base (2 * n + 2) "put_if" (spPut1 K n "if") := by
    refine ca_of (N := ["code", "row", "test", "over"]) (ps := ["code", "row"]) T.f_put_if T.g_put_if ⟨rfl, rfl, rfl, by decide +kernel, rfl, by decide +kernel, by decide +kernel⟩ (fun _ _ _ _ _ _ us hl => match us, hl with | [_, _], _ => rfl)
      (fun vs H Q E h => by obtain ⟨l, v, ys, c, r, k, deep, loops, rfl, hl, hys, hv, hw, ⟨ok, hd⟩, hn, hz, q⟩ := h; rfl) (fun cdv A outer s H vs Q E hr h => ?_)
    have nd : (["code", "row", "test", "over"] : List Str).Nodup := by decide +kernel
    obtain ⟨l, v, ys, c, r, k, deep, loops, rfl, hl, hys, hv, hw, ⟨ok, hd⟩, hn, hz, q⟩ := h
    obtain ⟨e, a, b, rfl⟩ := word_if hw
    obtain ⟨m, rfl⟩ : ∃ m, n = m + 1 := ⟨n - 1, by omega⟩
    have ok : e.good ∧ rowsOk k (deep + 1) loops a ∧ rowsOk k (deep + 1) loops b := ok
    have hz : c.length + 3 * (1 + (rowsCl a + rowsCl b)) ≤ 90000 := hz
    have nl : NoL (Row.iff e a b).d := Row.noL _
    obtain ⟨ra, xs, rfl, hra, hxs⟩ := dp_tup hv
    obtain ⟨x0, x1, x2, x3, rfl, h0, h1, h2, h3⟩ : ∃ x0 x1 x2 x3, xs = [x0, x1, x2, x3] ∧ Dp K H x0 (.str "if") ∧ Dp K H x1 e.d ∧ Dp K H x2 (.tuple (rowsD a)) ∧ Dp K H x3 (.tuple (rowsD b)) := by
      cases hxs with | cons h0 hr => cases hr with | cons h1 hr => cases hr with | cons h2 hr => cases hr with | cons h3 hr => cases hr with | nil => exact ⟨_, _, _, _, rfl, h0, h1, h2, h3⟩
    refine ⟨_, (pss_cons (ps_set (i := 2) nd rfl (.inl rfl) (pe_callB call_len_seq (by rfl) T.b_len PySem.boot_len (pa_cons (pv 0) pa_nil)))
      (pss_cons (ps_expr (pe_bm PySem.F.plainAttrs_list PySem.F.slot_list_append PySem.F.type_list_append mt_append (pv 0) (pa_cons (pe_tup pa_nil) pa_nil)))
      (pss_cons (ps_expr (pe_ca R hr (pa_cons (pv 0) (pa_cons (pe_ix ix_tup (pv 1) pe_int (fun _ _ => rfl)) pa_nil)) (by omega)))
      (pss_cons (ps_set (i := 3) nd rfl (.inl rfl) (pe_callB call_len_seq (by rfl) T.b_len PySem.boot_len (pa_cons (pv 0) pa_nil)))
      (pss_cons (ps_expr (pe_bm PySem.F.plainAttrs_list PySem.F.slot_list_append PySem.F.type_list_append mt_append (pv 0) (pa_cons (pe_tup pa_nil) pa_nil)))
      (pss_cons (ps_asg (pe_tup (pa_cons pe_str (pa_cons (pe_ix ix_tup (pv 1) pe_int (fun _ _ => rfl)) (pa_cons (pe_callB call_len_seq (by rfl) T.b_len PySem.boot_len (pa_cons (pv 0) pa_nil)) pa_nil)))) (pg_sub (pv 0) (pv 2) set_list))
      (pss_cons (ps_expr (pe_ca R hr (pa_cons (pv 0) (pa_cons (pe_ix ix_tup (pv 1) pe_int (fun _ _ => rfl)) pa_nil)) (by omega)))
      (pss_one (ps_asg (pe_tup (pa_cons pe_str (pa_cons (pe_callB call_len_seq (by rfl) T.b_len PySem.boot_len (pa_cons (pv 0) pa_nil)) pa_nil))) (pg_sub (pv 0) (pv 3) set_list)))))))))), ?_⟩
    have lys : ys.length = c.length := by rw [dps_len hys, List.length_map]
    have g1 := putRows_goes a (c ++ [FR.hole])
    have z1 := g1.sz
    simp only [List.length_append, List.length_cons, List.length_nil] at z1
    -- test = len(code); code.append(())
    refine ⟨_, rfl, _, _, rfl, .inl (.of hl), _, rfl, .inl ⟨rfl, _, .of hl⟩, (by show 0 ≤ sizeLine; exact Nat.zero_le _), fun t nt => ?_⟩
    have nlt : l ≠ t := ne_of_none hl nt
    have s1 : Same H (upd H t (.tup [])) := same_new nt
    refine ⟨l, ys, _, rfl, rfl, s1 _ _ hl, by rw [sizeLine_eq]; omega, ?_⟩
    -- put_rows(code, row[2])
    have b1 : But l H (upd (upd H t (.tup [])) l (.lst (ys ++ [.ref t]))) := (same_but s1).trans But.upd
    have ch : Ch H l := .lst hl
    have d1 : DpAll K (upd (upd H t (.tup [])) l (.lst (ys ++ [.ref t]))) (ys ++ [.ref t]) ((c ++ [FR.hole]).map FR.d) := by
      rw [List.map_append]
      exact dps_app (dps_but ch b1 hys (frs_noL c)) (.cons (.tup (SqT.of (by rw [upd_ne (Ne.symm nlt), upd_same])) .nil) .nil)
    refine ⟨_, rfl, _, rfl, _, _, _, _, rfl, rfl, sqT_but ch b1 hra, at2, l, x2, _, c ++ [FR.hole], a, k, deep + 1, loops, rfl, upd_same, d1, dp_but ch b1 h2 (.tup (rows_noL a)), ok.2.1, by omega, by simp; omega, fun H2 y2 b2 hl2 d2 => ?_⟩
    generalize ec1 : putRows a (c ++ [FR.hole]) = c1 at g1 z1 d2
    have l1 := g1.le
    simp only [List.length_append, List.length_cons, List.length_nil] at l1
    have ly2 : y2.length = c1.length := by rw [dps_len d2, List.length_map]
    have b02 : But l H H2 := b1.trans b2
    -- over = len(code); code.append(())
    refine ⟨_, rfl, _, _, rfl, .inl (.of hl2), _, rfl, .inl ⟨rfl, _, .of hl2⟩, (by show 0 ≤ sizeLine; exact Nat.zero_le _), fun t2 nt2 => ?_⟩
    have nlt2 : l ≠ t2 := ne_of_none hl2 nt2
    have s3 : Same H2 (upd H2 t2 (.tup [])) := same_new nt2
    refine ⟨l, y2, _, rfl, rfl, s3 _ _ hl2, by rw [sizeLine_eq]; omega, ?_⟩
    have b3 : But l H2 (upd (upd H2 t2 (.tup [])) l (.lst (y2 ++ [.ref t2]))) := (same_but s3).trans But.upd
    have ch2 : Ch H2 l := .lst hl2
    have d3 : DpAll K (upd (upd H2 t2 (.tup [])) l (.lst (y2 ++ [.ref t2]))) (y2 ++ [.ref t2]) ((c1 ++ [FR.hole]).map FR.d) := by
      rw [List.map_append]
      exact dps_app (dps_but ch2 b3 d2 (frs_noL c1)) (.cons (.tup (SqT.of (by rw [upd_ne (Ne.symm nlt2), upd_same])) .nil) .nil)
    have b03 := b02.trans b3
    generalize eH3 : upd (upd H2 t2 (.tup [])) l (.lst (y2 ++ [.ref t2])) = H3 at b3 d3 b03
    have hl3 : H3 l = some (.lst (y2 ++ [.ref t2])) := by rw [← eH3, upd_same]
    -- code[test] = ("unless", row[1], len(code))
    refine ⟨_, rfl, _, _, _, _, rfl, rfl, sqT_but ch b03 hra, at1, _, rfl, _, _, rfl, .inl (.of hl3), (by show 3 ≤ sizeLine; decide), fun t4 nt4 => ?_⟩
    have nlt4 : l ≠ t4 := ne_of_none hl3 nt4
    have s4 : Same H3 (upd H3 t4 (.tup [.str "unless", x1, .int ((y2 ++ [V.ref t2]).length : Nat)])) := same_new nt4
    refine ⟨_, rfl, _, rfl, l, _, _, c.length, rfl, rfl, s4 _ _ hl3, by rw [lys]; exact Evl.ixN_nat (by simp; omega), ?_⟩
    have ch3 : Ch H3 l := .lst hl3
    have b4 := (same_but s4 (D := l)).trans (But.upd (H := upd H3 t4 (.tup [.str "unless", x1, .int ((y2 ++ [V.ref t2]).length : Nat)])) (o := .lst ((y2 ++ [V.ref t2]).set c.length (V.ref t4))))
    have d4 : DpAll K (upd (upd H3 t4 (.tup [.str "unless", x1, .int ((y2 ++ [V.ref t2]).length : Nat)])) l (.lst ((y2 ++ [V.ref t2]).set c.length (V.ref t4)))) ((y2 ++ [V.ref t2]).set c.length (V.ref t4)) (((c1 ++ [FR.hole]).set c.length (FR.unless e (c1.length + 1))).map FR.d) := by
      rw [List.map_set]
      refine dps_set (dps_but ch3 b4 d3 (frs_noL _)) (.tup (SqT.of (by rw [upd_ne (Ne.symm nlt4), upd_same])) (.cons (.str _) (.cons (dp_but ch (b03.trans b4) h1 e.noL) (.cons ?_ .nil))))
      rw [show ((y2 ++ [V.ref t2]).length : Nat) = c1.length + 1 from by simp [ly2]]
      exact .int _
    have b04 := b03.trans b4
    -- put_rows(code, row[3])
    have g2 := putRows_goes b ((c1 ++ [FR.hole]).set c.length (FR.unless e (c1.length + 1)))
    have z2 := g2.sz
    simp only [List.length_append, List.length_set, List.length_cons, List.length_nil] at z2
    refine ⟨_, rfl, _, rfl, _, _, _, _, rfl, rfl, sqT_but ch b04 hra, at3, l, x3, _, (c1 ++ [FR.hole]).set c.length (FR.unless e (c1.length + 1)), b, k, deep + 1, loops, rfl, upd_same, d4, dp_but ch b04 h3 (.tup (rows_noL b)), ok.2.2, by omega, by simp; omega, fun H5 y5 b5 hl5 d5 => ?_⟩
    generalize ec2 : putRows b ((c1 ++ [FR.hole]).set c.length (FR.unless e (c1.length + 1))) = c2 at g2 z2 d5
    have l2 := g2.le
    simp only [List.length_append, List.length_set, List.length_cons, List.length_nil] at l2
    have ly5 : y5.length = c2.length := by rw [dps_len d5, List.length_map]
    have b05 := b04.trans b5
    -- code[over] = ("on", len(code))
    refine ⟨_, rfl, _, _, rfl, .inl (.of hl5), (by show 2 ≤ sizeLine; decide), fun t6 nt6 => ?_⟩
    have nlt6 : l ≠ t6 := ne_of_none hl5 nt6
    have s6 : Same H5 (upd H5 t6 (.tup [.str "on", .int (y5.length : Nat)])) := same_new nt6
    refine ⟨_, rfl, _, rfl, l, _, _, c1.length, rfl, rfl, s6 _ _ hl5, by rw [ly2]; exact Evl.ixN_nat (by omega), ?_⟩
    have b6 := (same_but s6 (D := l)).trans (But.upd (H := upd H5 t6 (.tup [.str "on", .int (y5.length : Nat)])) (o := .lst (y5.set c1.length (.ref t6))))
    refine q _ _ (b05.trans b6) upd_same ?_
    have e0 : putRow (.iff e a b) c = c2.set c1.length (FR.on c2.length) := by
      show (putRows b (((putRows a (c ++ [FR.hole])) ++ [FR.hole]).set c.length (FR.unless e ((putRows a (c ++ [FR.hole])).length + 1)))).set (putRows a (c ++ [FR.hole])).length (FR.on (putRows b (((putRows a (c ++ [FR.hole])) ++ [FR.hole]).set c.length (FR.unless e ((putRows a (c ++ [FR.hole])).length + 1)))).length) = _
      rw [ec1, ec2]
    rw [e0, List.map_set]
    refine dps_set (dps_but (.lst hl5) b6 d5 (frs_noL _)) (.tup (SqT.of (by rw [upd_ne (Ne.symm nlt6), upd_same])) (.cons (.str _) (.cons ?_ .nil)))
    rw [ly5]
    exact .int _
end

end M

set_option Elab.async false
set_option linter.all false
set_option maxRecDepth 100000
set_option maxHeartbeats 2000000
namespace M
open PySem PySem.Spec PyProof.Rows L2

section
variable {P : Program} {w : World} {K : PySem.W.Frag} {mg : Str → Option Value} {base : Heap}
theorem ca_put_times {n : Nat} (R : Ca P w K mg base (2 * n + 1) "put_rows" (spPuts K n)) (T : Txt w K mg) : Ca P w K mg base (2 * n + 2) "put_times" (spPut1 K n "times") := by
    refine ca_of (N := ["code", "row", "top"]) (ps := ["code", "row"]) T.f_put_times T.g_put_times ⟨rfl, rfl, rfl, by decide +kernel, rfl, by decide +kernel, by decide +kernel⟩ (fun _ _ _ _ _ _ us hl => match us, hl with | [_, _], _ => rfl)
      (fun vs H Q E h => by obtain ⟨l, v, ys, c, r, k, deep, loops, rfl, hl, hys, hv, hw, ⟨ok, hd⟩, hn, hz, q⟩ := h; rfl) (fun cdv A outer s H vs Q E hr h => ?_)
    have nd : (["code", "row", "top"] : List Str).Nodup := by decide +kernel
    obtain ⟨l, v, ys, c, r, k, deep, loops, rfl, hl, hys, hv, hw, ⟨ok, hd⟩, hn, hz, q⟩ := h
    obtain ⟨e, a, rfl⟩ := word_times hw
    obtain ⟨m, rfl⟩ : ∃ m, n = m + 1 := ⟨n - 1, by omega⟩
    have ok : e.good ∧ loops < 2 ∧ rowsOk k (deep + 1) (loops + 1) a := ok
    have hz : c.length + 3 * (1 + rowsCl a) ≤ 90000 := hz
    obtain ⟨ra, x0, x1, x2, rfl, hra, h0, h1, h2⟩ := dp3 hv
    refine ⟨_, (pss_cons (ps_expr (pe_bm PySem.F.plainAttrs_list PySem.F.slot_list_append PySem.F.type_list_append mt_append (pv 0) (pa_cons (pe_tup (pa_cons pe_str (pa_cons (pe_ix ix_tup (pv 1) pe_int (fun _ _ => rfl)) pa_nil))) pa_nil)))
      (pss_cons (ps_set (i := 2) nd rfl (.inl rfl) (pe_callB call_len_seq (by rfl) T.b_len PySem.boot_len (pa_cons (pv 0) pa_nil)))
      (pss_cons (ps_expr (pe_bm PySem.F.plainAttrs_list PySem.F.slot_list_append PySem.F.type_list_append mt_append (pv 0) (pa_cons (pe_tup pa_nil) pa_nil)))
      (pss_cons (ps_expr (pe_ca R hr (pa_cons (pv 0) (pa_cons (pe_ix ix_tup (pv 1) pe_int (fun _ _ => rfl)) pa_nil)) (by omega)))
      (pss_cons (ps_expr (pe_bm PySem.F.plainAttrs_list PySem.F.slot_list_append PySem.F.type_list_append mt_append (pv 0) (pa_cons (pe_tup (pa_cons pe_str (pa_cons (pv 2) pa_nil))) pa_nil)))
      (pss_one (ps_asg (pe_tup (pa_cons pe_str (pa_cons (pe_callB call_len_seq (by rfl) T.b_len PySem.boot_len (pa_cons (pv 0) pa_nil)) pa_nil))) (pg_sub (pv 0) (pv 2) set_list)))))))), ?_⟩
    have lys : ys.length = c.length := by rw [dps_len hys, List.length_map]
    have g1 := putRows_goes a (c ++ [FR.rounds e, FR.hole])
    have z1 := g1.sz
    simp only [List.length_append, List.length_cons, List.length_nil] at z1
    have ch : Ch H l := .lst hl
    -- code.append(("rounds", row[1]))
    refine ⟨_, rfl, .inl ⟨rfl, _, .of hl⟩, _, rfl, _, _, _, _, rfl, rfl, hra, at1, (by show 2 ≤ sizeLine; decide), fun t nt => ?_⟩
    have nlt : l ≠ t := ne_of_none hl nt
    have s1 : Same H (upd H t (.tup [.str "rounds", x1])) := same_new nt
    refine ⟨l, ys, _, rfl, rfl, s1 _ _ hl, by rw [sizeLine_eq]; omega, ?_⟩
    have b1 := (same_but s1 (D := l)).trans (But.upd (H := upd H t (.tup [.str "rounds", x1])) (o := .lst (ys ++ [V.ref t])))
    have d1 : DpAll K (upd (upd H t (.tup [.str "rounds", x1])) l (.lst (ys ++ [V.ref t]))) (ys ++ [V.ref t]) ((c ++ [FR.rounds e]).map FR.d) := by
      rw [List.map_append]
      exact dps_app (dps_but ch b1 hys (frs_noL c)) (.cons (.tup (SqT.of (by rw [upd_ne (Ne.symm nlt), upd_same])) (.cons (.str _) (.cons (dp_but ch b1 h1 e.noL) .nil))) .nil)
    generalize eH1 : upd (upd H t (.tup [.str "rounds", x1])) l (.lst (ys ++ [V.ref t])) = H1 at b1 d1
    have hl1 : H1 l = some (.lst (ys ++ [V.ref t])) := by rw [← eH1, upd_same]
    -- top = len(code); code.append(())
    refine ⟨_, rfl, _, _, rfl, .inl (.of hl1), _, rfl, .inl ⟨rfl, _, .of hl1⟩, (by show 0 ≤ sizeLine; exact Nat.zero_le _), fun t2 nt2 => ?_⟩
    have nlt2 : l ≠ t2 := ne_of_none hl1 nt2
    have s2 : Same H1 (upd H1 t2 (.tup [])) := same_new nt2
    refine ⟨l, _, _, rfl, rfl, s2 _ _ hl1, by rw [sizeLine_eq]; simp; omega, ?_⟩
    have b2 := (same_but s2 (D := l)).trans (But.upd (H := upd H1 t2 (.tup [])) (o := .lst (ys ++ [V.ref t] ++ [V.ref t2])))
    have d2 : DpAll K (upd (upd H1 t2 (.tup [])) l (.lst (ys ++ [V.ref t] ++ [V.ref t2]))) (ys ++ [V.ref t] ++ [V.ref t2]) ((c ++ [FR.rounds e, FR.hole]).map FR.d) := by
      rw [show c ++ [FR.rounds e, FR.hole] = (c ++ [FR.rounds e]) ++ [FR.hole] from by simp, List.map_append]
      exact dps_app (dps_but (.lst hl1) b2 d1 (frs_noL _)) (.cons (.tup (SqT.of (by rw [upd_ne (Ne.symm nlt2), upd_same])) .nil) .nil)
    have b02 := b1.trans b2
    -- put_rows(code, row[2])
    refine ⟨_, rfl, _, rfl, _, _, _, _, rfl, rfl, sqT_but ch b02 hra, at2, l, x2, _, c ++ [FR.rounds e, FR.hole], a, k, deep + 1, loops + 1, rfl, upd_same, d2, dp_but ch b02 h2 (.tup (rows_noL a)), ok.2.2, by omega, by simp; omega, fun H3 y3 b3 hl3 d3 => ?_⟩
    generalize ec1 : putRows a (c ++ [FR.rounds e, FR.hole]) = c1 at g1 z1 d3
    have l1 := g1.le
    simp only [List.length_append, List.length_cons, List.length_nil] at l1
    have ly3 : y3.length = c1.length := by rw [dps_len d3, List.length_map]
    have b03 := b02.trans b3
    -- code.append(("on", top))
    refine ⟨_, rfl, .inl ⟨rfl, _, .of hl3⟩, _, rfl, (by show 2 ≤ sizeLine; decide), fun t4 nt4 => ?_⟩
    have nlt4 : l ≠ t4 := ne_of_none hl3 nt4
    have s4 : Same H3 (upd H3 t4 (.tup [.str "on", .int ((ys ++ [V.ref t]).length : Nat)])) := same_new nt4
    refine ⟨l, y3, _, rfl, rfl, s4 _ _ hl3, by rw [sizeLine_eq]; omega, ?_⟩
    have b4 := (same_but s4 (D := l)).trans (But.upd (H := upd H3 t4 (.tup [.str "on", .int ((ys ++ [V.ref t]).length : Nat)])) (o := .lst (y3 ++ [V.ref t4])))
    have d4 : DpAll K (upd (upd H3 t4 (.tup [.str "on", .int ((ys ++ [V.ref t]).length : Nat)])) l (.lst (y3 ++ [V.ref t4]))) (y3 ++ [V.ref t4]) ((c1 ++ [FR.on (c.length + 1)]).map FR.d) := by
      rw [List.map_append]
      refine dps_app (dps_but (.lst hl3) b4 d3 (frs_noL _)) (.cons (.tup (SqT.of (by rw [upd_ne (Ne.symm nlt4), upd_same])) (.cons (.str _) (.cons ?_ .nil))) .nil)
      rw [show ((ys ++ [V.ref t]).length : Nat) = c.length + 1 from by simp [lys]]
      exact .int _
    generalize eH4 : upd (upd H3 t4 (.tup [.str "on", .int ((ys ++ [V.ref t]).length : Nat)])) l (.lst (y3 ++ [V.ref t4])) = H4 at b4 d4
    have hl4 : H4 l = some (.lst (y3 ++ [V.ref t4])) := by rw [← eH4, upd_same]
    have b04 := b03.trans b4
    -- code[top] = ("round", len(code))
    refine ⟨_, rfl, _, _, rfl, .inl (.of hl4), (by show 2 ≤ sizeLine; decide), fun t6 nt6 => ?_⟩
    have nlt6 : l ≠ t6 := ne_of_none hl4 nt6
    have s6 : Same H4 (upd H4 t6 (.tup [.str "round", .int ((y3 ++ [V.ref t4]).length : Nat)])) := same_new nt6
    refine ⟨_, rfl, _, rfl, l, _, _, c.length + 1, rfl, rfl, s6 _ _ hl4, by rw [show ((ys ++ [V.ref t]).length : Nat) = c.length + 1 from by simp [lys]]; exact Evl.ixN_nat (by simp; omega), ?_⟩
    have b6 := (same_but s6 (D := l)).trans (But.upd (H := upd H4 t6 (.tup [.str "round", .int ((y3 ++ [V.ref t4]).length : Nat)])) (o := .lst ((y3 ++ [V.ref t4]).set (c.length + 1) (V.ref t6))))
    refine q _ _ (b04.trans b6) upd_same ?_
    have e0 : putRow (.times e a) c = (c1 ++ [FR.on (c.length + 1)]).set (c.length + 1) (FR.round (c1.length + 1)) := by
      show ((putRows a (c ++ [FR.rounds e, FR.hole])) ++ [FR.on (c.length + 1)]).set (c.length + 1) (FR.round ((putRows a (c ++ [FR.rounds e, FR.hole])).length + 1)) = _
      rw [ec1]
    rw [e0, List.map_set]
    refine dps_set (dps_but (.lst hl4) b6 d4 (frs_noL _)) (.tup (SqT.of (by rw [upd_ne (Ne.symm nlt6), upd_same])) (.cons (.str _) (.cons ?_ .nil)))
    rw [show ((y3 ++ [V.ref t4]).length : Nat) = c1.length + 1 from by simp [ly3]]
    exact .int _
theorem ca_put_rows1 {n : Nat} (RI : Ca P w K mg base (2 * n + 2) "put_if" (spPut1 K n "if")) (RT : Ca P w K mg base (2 * n + 2) "put_times" (spPut1 K n "times")) (T : Txt w K mg) : Ca P w K mg base (2 * n + 3) "put_rows" (spPuts K (n + 1)) := by
    refine ca_of (N := ["code", "rows", "row"]) (ps := ["code", "rows"]) T.f_put_rows T.g_put_rows ⟨rfl, rfl, rfl, by decide +kernel, rfl, by decide +kernel, by decide +kernel⟩ (fun _ _ _ _ _ _ us hl => match us, hl with | [_, _], _ => rfl)
      (fun vs H Q E h => by obtain ⟨l, v, ys, c, rs, k, deep, loops, rfl, hl, hys, hv, ok, hn, hz, q⟩ := h; rfl) (fun cdv A outer s H vs Q E hr h => ?_)
    have nd : (["code", "rows", "row"] : List Str).Nodup := by decide +kernel
    obtain ⟨l, v, ys, c, rs, k, deep, loops, rfl, hl, hys, hv, ok, hn, hz, q⟩ := h
    obtain ⟨a, xs, rfl, ha, hxs⟩ := dp_tup hv
    have lxs : xs.length = rs.length := by rw [dps_len hxs, rowsD_map, List.length_map]
    refine ⟨_, (pss_one (ps_for PassesOwn.never rfl (pi_tup (pv 1)) (pg_name (i := 2) nd rfl (.inl rfl)) (pss_one (ps_if (pt_cmpR op_eq (pe_ix ix_tup (pv 2) pe_int (fun _ _ => rfl)) pe_str (nomark _)) (pss_one (ps_expr (pe_ca RI hr (pa_cons (pv 0) (pa_cons (pv 2) pa_nil)) (by omega)))) (pss_one (ps_if (pt_cmpR op_eq (pe_ix ix_tup (pv 2) pe_int (fun _ _ => rfl)) pe_str (nomark _)) (pss_one (ps_expr (pe_ca RT hr (pa_cons (pv 0) (pa_cons (pv 2) pa_nil)) (by omega)))) (pss_one (ps_expr (pe_bm PySem.F.plainAttrs_list PySem.F.slot_list_append PySem.F.type_list_append mt_append (pv 0) (pa_cons (pv 2) pa_nil)))))))))), ?_⟩
    have ch : Ch H l := .lst hl
    refine ⟨_, rfl, a, rfl, ⟨_, ha⟩, for_tup (xs := xs) (fun i σ' H' => ∃ x y', σ' = [some (.ref l), some (.ref a), x] ∧ But l H H' ∧ H' l = some (.lst y') ∧ DpAll K H' y' ((putRows (rs.take i) c).map FR.d)) ⟨none, ys, rfl, fun b o _ z => z, hl, hys⟩ (fun i σ' H' _ ⟨_, _, _, bt, _⟩ => sqT_but ch bt ha) ?_ ?_⟩
    · rintro i x σ' H' hx ⟨_, y', rfl, bt, hl', hy'⟩
      obtain ⟨dd, hdd, hxd⟩ := dps_get hxs hx
      rw [rowsD_map] at hdd
      obtain ⟨r, hr', rfl⟩ := get_mapA hdd
      have okr := rowsOkAt ok r (List.mem_of_getElem? hr')
      have szt := rowsCl_take hr'
      have gz := (putRows_goes (rs.take i) c).sz
      have ly' : y'.length = (putRows (rs.take i) c).length := by rw [dps_len hy', List.length_map]
      have hx2 : Dp K H' x r.d := dp_but ch bt hxd r.noL
      have r1 : 1 ≤ r.cl := by rw [row_cl]; omega
      have nxt : ∀ H3 y3, But l H' H3 → H3 l = some (.lst y3) → DpAll K H3 y3 ((putRow r (putRows (rs.take i) c)).map FR.d) → ∃ x' y', [some (.ref l), some (.ref a), some x] = [some (.ref l), some (.ref a), x'] ∧ But l H H3 ∧ H3 l = some (.lst y') ∧ DpAll K H3 y' ((putRows (rs.take (i + 1)) c).map FR.d) := fun H3 y3 b3 h3 d3 => ⟨_, y3, rfl, bt.trans b3, h3, by rw [take_more hr', putRows_snoc]; exact d3⟩
      have hv' := hx2
      rw [row_d] at hx2
      obtain ⟨ra, zs, rfl, hra, hzs⟩ := dp_tup hx2
      obtain ⟨z0, zr, rfl, h0, hzr⟩ : ∃ y ys, zs = y :: ys ∧ Dp K H' y (.str r.word) ∧ DpAll K H' ys (r.prts.map Prt.d) := by
        cases hzs with | cons h1 h2 => exact ⟨_, _, rfl, h1, h2⟩
      cases dp_str h0
      refine ⟨_, rfl, _, _, _, _, rfl, rfl, hra, at0, rfl, _, rfl, ?_⟩
      by_cases e1 : r.word = "if"
      · rw [e1]
        exact iteT ⟨_, rfl, _, rfl, l, _, y', _, r, k, deep, loops, rfl, hl', hy', hv', e1, ⟨okr.2, okr.1⟩, hn, by omega, fun H3 y3 b3 h3 d3 => nxt H3 y3 b3 h3 d3⟩
      · rw [decide_eq_false (show ¬ V.str r.word = V.str "if" from fun z => e1 (V.str.inj z))]
        refine iteF ⟨_, rfl, _, _, _, _, rfl, rfl, hra, at0, rfl, _, rfl, ?_⟩
        by_cases e2 : r.word = "times"
        · rw [e2]
          exact iteT ⟨_, rfl, _, rfl, l, _, y', _, r, k, deep, loops, rfl, hl', hy', hv', e2, ⟨okr.2, okr.1⟩, hn, by omega, fun H3 y3 b3 h3 d3 => nxt H3 y3 b3 h3 d3⟩
        · rw [decide_eq_false (show ¬ V.str r.word = V.str "times" from fun z => e2 (V.str.inj z))]
          refine iteF ⟨_, rfl, .inl ⟨rfl, _, .of hl'⟩, _, rfl, l, y', _, rfl, rfl, hl', by rw [sizeLine_eq]; omega, ?_⟩
          refine nxt _ _ But.upd upd_same ?_
          rw [putRow_plain _ e1 e2, List.map_append]
          exact dps_app (dps_but (.lst hl') But.upd hy' (frs_noL _)) (.cons (dp_but (.lst hl') But.upd hv' r.noL) .nil)
    · rintro σ' H' ⟨_, y', rfl, bt, hl', hy'⟩
      rw [lxs, List.take_length] at hy'
      exact q H' y' bt hl' hy'
theorem ca_put_rows (T : Txt w K mg) : ∀ n, Ca P w K mg base (2 * n + 1) "put_rows" (spPuts K n)
  | 0 => ca_false (ps := ["code", "rows"]) T.f_put_rows T.g_put_rows (fun _ _ _ _ _ _ us hl => match us, hl with | [_, _], _ => rfl)
  | n + 1 => ca_put_rows1 (ca_put_if (ca_put_rows T n) T) (ca_put_times (ca_put_rows T n) T) T
def spCode (K : PySem.W.Frag) : Sp := fun vs H Q _ => ∃ (v : V) (rs : List Row) (k : Int), vs = [v] ∧ Dp K H v (.tuple (rowsD rs)) ∧ rowsOk k 1 0 rs ∧ rowsCl rs ≤ 2000 ∧ ∀ H' u, Same H H' → Dp K H' u (codeD rs) → Q u H'
theorem ca_code_of (T : Txt w K mg) : Ca P w K mg base 30 "code_of" (spCode K) := by
  refine ca_of (N := ["body", "code"]) (ps := ["body"]) T.f_code_of T.g_code_of ⟨rfl, rfl, rfl, by decide +kernel, rfl, by decide +kernel, by decide +kernel⟩ (fun _ _ _ _ _ _ us hl => match us, hl with | [_], _ => rfl)
    (fun vs H Q E h => by obtain ⟨v, rs, k, rfl, hv, ok, hc, q⟩ := h; rfl) (fun cdv A outer s H vs Q E hr h => ?_)
  have nd : (["body", "code"] : List Str).Nodup := by decide +kernel
  obtain ⟨v, rs, k, rfl, hv, ok, hc, q⟩ := h
  refine ⟨_, (pss_cons (ps_set (i := 1) nd rfl (.inl rfl) (pe_lst pa_nil))
      (pss_cons (ps_expr (pe_ca (ca_put_rows T 13) hr (pa_cons (pv 1) (pa_cons (pv 0) pa_nil))))
      (pss_cons (ps_expr (pe_bm PySem.F.plainAttrs_list PySem.F.slot_list_append PySem.F.type_list_append mt_append (pv 1) (pa_cons (pe_tup (pa_cons pe_str (pa_cons pe_int pa_nil))) pa_nil)))
      (pss_one (ps_ret (pe_tupleOf (by rfl) T.b_tuple (pv 1))))))), ?_⟩
  refine ⟨(by show 0 ≤ sizeLine; exact Nat.zero_le _), fun l nl => ?_⟩
  have s0 : Same H (upd H l (.lst [])) := same_new nl
  refine ⟨_, rfl, _, rfl, l, v, [], [], rs, k, 1, 0, rfl, upd_same, .nil, dp_same s0 hv, ok, (by decide), by simp; omega, fun H1 y1 b1 h1 d1 => ?_⟩
  have gz := (putRows_goes rs []).sz
  have ly : y1.length = (putRows rs []).length := by rw [dps_len d1, List.length_map]
  refine ⟨_, rfl, .inl ⟨rfl, _, .of h1⟩, (by show 2 ≤ sizeLine; decide), fun t nt => ?_⟩
  have nlt : l ≠ t := ne_of_none h1 nt
  have s1 : Same H1 (upd H1 t (.tup [.str "answer", .int 0])) := same_new nt
  refine ⟨l, y1, _, rfl, rfl, s1 _ _ h1, by rw [sizeLine_eq]; simp at gz; omega, ?_⟩
  have b2 := (same_but s1 (D := l)).trans (But.upd (H := upd H1 t (.tup [.str "answer", .int 0])) (o := .lst (y1 ++ [V.ref t])))
  have d2 : DpAll K (upd (upd H1 t (.tup [.str "answer", .int 0])) l (.lst (y1 ++ [V.ref t]))) (y1 ++ [V.ref t]) ((codeOf rs).map FR.d) := by
    show DpAll _ _ _ ((putRows rs [] ++ [FR.row (.ans (.num 0))]).map FR.d)
    rw [List.map_append]
    exact dps_app (dps_but (.lst h1) b2 d1 (frs_noL _)) (.cons (.tup (SqT.of (by rw [upd_ne (Ne.symm nlt), upd_same])) (.cons (.str _) (.cons (.int 0) .nil))) .nil)
  refine ⟨_, rfl, .inl ⟨l, _, rfl, .of upd_same, fun p np => ?_⟩⟩
  have s3 := same_new (o := .tup (y1 ++ [V.ref t])) np
  refine q _ _ (fun b o e => ?_) (.tup (SqT.of upd_same) (dps_same s3 d2))
  refine s3 b o ?_
  have hb := ne_of_none e nl
  exact b2 b o hb (b1 b o hb (s0 b o e))
end

end M

set_option Elab.async false
set_option linter.all false
set_option maxRecDepth 100000
set_option maxHeartbeats 2000000
namespace M
open PySem PySem.Spec PyProof.Rows L2

theorem upd_id {H : Hp} {d : Addr} {u : HO} (h : H d = some u) : upd H d u = H := by
  funext b
  by_cases e : b = d
  · rw [e, upd_same, h]
  · rw [upd_ne e]
theorem codes_but {K : PySem.W.Frag} {H H' : Hp} {D : Addr} (hD : Ch H D) (s : But D H H') : ∀ {kvs : List (Key × V)} {ds : List (Str × Int × List Row)}, CodesR K H kvs ds → CodesR K H' kvs ds
  | [], [], _ => trivial
  | (_, _) :: _, _ :: _, h => ⟨h.1, dp_but hD s h.2.1 (code_noL _), codes_but hD s h.2.2⟩
  | [], _ :: _, h => h.elim
  | _ :: _, [], h => h.elim
theorem codes_at {K : PySem.W.Frag} {H : Hp} : ∀ {kvs : List (Key × V)} {ds : List (Str × Int × List Row)} {i : Nat} {p : Key × V}, CodesR K H kvs ds → kvs[i]? = some p → ∃ d, ds[i]? = some d ∧ p.1 = Sum.inr d.1 ∧ Dp K H p.2 (codeD d.2.2)
  | [], [], i, p, _, e => by simp at e
  | (k, v) :: r, d :: ds, 0, p, h, e => by
    cases (Option.some.inj e)
    exact ⟨d, rfl, h.1, h.2.1⟩
  | (k, v) :: r, d :: ds, i + 1, p, h, e => codes_at (i := i) h.2.2 e
  | [], _ :: _, _, _, h, _ => h.elim
  | _ :: _, [], _, _, h, _ => h.elim
theorem codes_len {K : PySem.W.Frag} {H : Hp} : ∀ {kvs : List (Key × V)} {ds : List (Str × Int × List Row)}, CodesR K H kvs ds → kvs.length = ds.length
  | [], [], _ => rfl
  | (_, _) :: _, _ :: _, h => congrArg (· + 1) (codes_len h.2.2)
  | [], _ :: _, h => h.elim
  | _ :: _, [], h => h.elim
theorem codes_snoc {K : PySem.W.Frag} {H : Hp} {v : V} {d : Str × Int × List Row} (hv : Dp K H v (codeD d.2.2)) : ∀ {kvs : List (Key × V)} {ds : List (Str × Int × List Row)}, CodesR K H kvs ds → CodesR K H (kvs ++ [(Sum.inr d.1, v)]) (ds ++ [d])
  | [], [], _ => ⟨rfl, hv, trivial⟩
  | (_, _) :: _, _ :: _, h => ⟨h.1, h.2.1, codes_snoc hv h.2.2⟩
  | [], _ :: _, h => h.elim
  | _ :: _, [], h => h.elim
theorem codes_no {K : PySem.W.Frag} {H : Hp} {s : Str} : ∀ {kvs : List (Key × V)} {ds : List (Str × Int × List Row)}, CodesR K H kvs ds → s ∉ ds.map (·.1) → valV kvs (Sum.inr s : Key) = none
  | [], [], _, _ => rfl
  | (k, v) :: r, d :: ds, h, n => by
    obtain ⟨rfl, _, hr⟩ := h
    rw [List.map_cons, List.mem_cons, not_or] at n
    have := codes_no hr n.2
    unfold valV at this ⊢
    rw [List.find?_cons_of_neg (by simp; exact fun e => n.1 e.symm)]
    exact this
  | [], _ :: _, h, _ => h.elim
  | _ :: _, [], h, _ => h.elim
/-- whether a row with this word stands in one of the codes -/
def hasW (ds : List (Str × Int × List Row)) (s : Str) : Bool := ds.any fun d => (codeOf d.2.2).any fun f => decide (f.hd = some s)
section
variable {P : Program} {w : World} {K : PySem.W.Frag} {mg : Str → Option Value} {base : Heap}
def spHasRow (K : PySem.W.Frag) : Sp := fun vs H Q _ => ∃ (d : Addr) (kvs : List (Key × V)) (ds : List (Str × Int × List Row)) (s : Str), vs = [.ref d, .str s] ∧ H d = some (.dK kvs) ∧ CodesR K H kvs ds ∧ Q (.bl (hasW ds s)) H
theorem ca_has_row (T : Txt w K mg) : Ca P w K mg base 1 "has_row" (spHasRow K) := by
  refine ca_of (N := ["codes", "word", "code", "row"]) (ps := ["codes", "word"]) T.f_has_row T.g_has_row ⟨rfl, rfl, rfl, by decide +kernel, rfl, by decide +kernel, by decide +kernel⟩ (fun _ _ _ _ _ _ us hl => match us, hl with | [_, _], _ => rfl)
    (fun vs H Q E h => by obtain ⟨d, kvs, ds, s, rfl, hd, hc, q⟩ := h; rfl) (fun cdv A outer s H vs Q E hr h => ?_)
  have nd : (["codes", "word", "code", "row"] : List Str).Nodup := by decide +kernel
  obtain ⟨d, kvs, ds, s, rfl, hd, hc, q⟩ := h
  refine ⟨_, pss_cons (ps_lock (ps_for PassesOwn.never rfl (pi_values (pv 0)) (pg_name (i := 2) nd rfl (.inl rfl))
    (pss_one (ps_for PassesOwn.never rfl (pi_tup (pv 2)) (pg_name (i := 3) nd rfl (.inl rfl)) (pss_one (ps_if (pt_cmpR op_eq (pe_ix ix_tup (pv 3) pe_int (fun _ _ => rfl)) (pv 1) (nomark _)) (pss_one (ps_ret pe_bl)) pss_nil))))))
    (pss_one (ps_ret pe_bl)), ?_⟩
  refine ⟨d, _, hd, True.intro, fun od => ?_⟩
  have ch : Ch H d := .dK hd
  have hcf : CodesR K (upd H d (.frz od (.dK kvs))) kvs ds := codes_but ch But.upd hc
  have back : upd (upd H d (.frz od (.dK kvs))) d (.dK kvs) = H := by rw [upd_upd, upd_id hd]
  have ret : ∀ b, b = hasW ds s → Q (.bl b) (upd (upd H d (.frz od (.dK kvs))) d (.dK kvs)) := fun b e => by rw [back, e]; exact q
  refine ⟨_, rfl, d, od, kvs, rfl, upd_same, for_it (n := kvs.length) walk_values (fun i σ' H' => ∃ x y, σ' = [some (.ref d), some (.str s), x, y] ∧ H' = upd H d (.frz od (.dK kvs)) ∧ hasW (ds.take i) s = false) ⟨none, none, rfl, rfl, rfl⟩ (fun i σ' H' _ ⟨_, _, _, e, _⟩ => by rw [e, upd_same]) ?_ ?_⟩
  · rintro i x σ' H' H2 hi ⟨_, _, rfl, rfl, hw⟩ ⟨rfl, k, hk⟩
    obtain ⟨dd, hdd, _, hcode⟩ := codes_at hcf hk
    obtain ⟨ra, xs, e0, hra, hxs⟩ := dp_tup hcode
    have e0 : x = .ref ra := e0
    subst e0
    have hin : dd ∈ ds := List.mem_of_getElem? hdd
    refine ⟨_, rfl, ra, rfl, ⟨_, hra⟩, for_tup (xs := xs) (fun j σ' H' => ∃ y, σ' = [some (.ref d), some (.str s), some (.ref ra), y] ∧ H' = upd H d (.frz od (.dK kvs)) ∧ ((codeOf dd.2.2).take j).any (fun f => decide (f.hd = some s)) = false) ⟨_, rfl, rfl, rfl⟩ (fun j σ' H' _ ⟨_, _, e, _⟩ => by rw [e]; exact hra) ?_ ?_⟩
    · rintro j y σ' H' hy ⟨_, rfl, rfl, hf⟩
      obtain ⟨de, hde, hyd⟩ := dps_get hxs hy
      obtain ⟨f, hf', rfl⟩ := get_mapA hde
      obtain ⟨wd, hwd⟩ := code_hd (List.mem_of_getElem? hf')
      rw [fr_d hwd] at hyd
      obtain ⟨rb, zs, rfl, hrb, hzs⟩ := dp_tup hyd
      obtain ⟨z0, zr, rfl, hz0⟩ : ∃ z0 zr, zs = z0 :: zr ∧ Dp K (upd H d (.frz od (.dK kvs))) z0 (.str wd) := by
        cases hzs with | cons h1 h2 => exact ⟨_, _, rfl, h1⟩
      cases dp_str hz0
      refine ⟨_, rfl, _, _, _, _, rfl, rfl, hrb, at0, _, rfl, rfl, _, rfl, ?_⟩
      by_cases e : wd = s
      · rw [decide_eq_true (show V.str wd = V.str s from congrArg V.str e)]
        refine iteT ⟨upd_same, ret _ ?_⟩
        refine (List.any_eq_true.mpr ⟨dd, hin, List.any_eq_true.mpr ⟨f, List.mem_of_getElem? hf', ?_⟩⟩).symm
        rw [hwd, e]
        exact decide_eq_true rfl
      · rw [decide_eq_false (show ¬ V.str wd = V.str s from fun z => e (V.str.inj z))]
        refine iteF ⟨_, rfl, rfl, ?_⟩
        rw [take_more hf', List.any_append, hf]
        simp [hwd, e]
    · rintro σ' H' ⟨_, rfl, rfl, hf⟩
      refine ⟨_, _, rfl, rfl, ?_⟩
      have lx : xs.length = (codeOf dd.2.2).length := by rw [dps_len hxs, List.length_map]
      rw [lx, List.take_length] at hf
      rw [take_more hdd]
      unfold hasW at hw ⊢
      rw [List.any_append, hw]
      simp [hf]
  · rintro σ' H' ⟨_, _, rfl, rfl, hw⟩
    rw [codes_len hc, List.take_length] at hw
    exact ⟨upd_same, ret _ hw.symm⟩
end

end M

set_option Elab.async false
set_option linter.all false
set_option maxRecDepth 100000
set_option maxHeartbeats 2000000
namespace M
open PySem PySem.Spec PyProof.Rows L2

/-- what stands at D is no list -/
def NoLst (H : Hp) (D : Addr) : Prop := (∀ xs, H D ≠ some (.lst xs)) ∧ ∀ o u, H D ≠ some (.frz o u)
theorem NoLst.ins {H : Hp} {D C dx : Addr} {l : List (Str × V)} (h : H D = some (.ins C dx l)) : NoLst H D := ⟨fun _ e => (by rw [h] at e; cases e), fun _ _ e => (by rw [h] at e; cases e)⟩
theorem NoLst.dT {H : Hp} {D : Addr} {l : List (List Key × V)} (h : H D = some (.dT l)) : NoLst H D := ⟨fun _ e => (by rw [h] at e; cases e), fun _ _ e => (by rw [h] at e; cases e)⟩
theorem NoLst.dK {H : Hp} {D : Addr} {l : List (Key × V)} (h : H D = some (.dK l)) : NoLst H D := ⟨fun _ e => (by rw [h] at e; cases e), fun _ _ e => (by rw [h] at e; cases e)⟩
theorem sqL_but {K : PySem.W.Frag} {H H' : Hp} {D : Addr} (hD : NoLst H D) (s : But D H H') {a : Addr} {xs : List V} (h : SqL K H a xs) : SqL K H' a xs := by
  rcases h with (h | ⟨o, h⟩) | h
  · exact .inl (.inl (s _ _ (fun e => hD.1 _ (e ▸ h)) h))
  · exact .inl (.inr ⟨o, s _ _ (fun e => hD.2 _ _ (e ▸ h)) h⟩)
  · exact .inr h
theorem cells_but {K : PySem.W.Frag} {H H' : Hp} {D : Addr} (hD : Ch H D) (s : But D H H') {xs : List V} {cs : List (Int × Int)} (h : DpAll K H xs (cs.map cellD)) : DpAll K H' xs (cs.map cellD) :=
  dps_but hD s h fun d hd => by
    obtain ⟨c, _, rfl⟩ := List.mem_map.mp hd
    exact cell_noL c
theorem deeds_but {K : PySem.W.Frag} {H H' : Hp} {D : Addr} (hD : Ch H D) (s : But D H H') {xs : List V} {cs : List (Str × Int × List Row)} (h : DpAll K H xs (cs.map deedD)) : DpAll K H' xs (cs.map deedD) :=
  dps_but hD s h fun d hd => by
    obtain ⟨c, _, rfl⟩ := List.mem_map.mp hd
    exact deed_noL c
theorem vf_codes0 (a d c : Addr) : (putF "_codes" (V.ref c) (putF "_deeds" (.ref d) (putF "_cells" (.ref a) []))).lookup ("_codes" : Str) = some (.ref c) := by
  rw [lookup_putF, if_pos rfl]
section
variable {P : Program} {w : World} {K : PySem.W.Frag} {mg : Str → Option Value} {base : Heap}
def spVault (K : PySem.W.Frag) : Sp := fun vs H Q _ => ∃ (p dx a b : Addr) (xs ys : List V) (v : Vlt), vs = [.ref p, .ref a, .ref b] ∧ H p = some (.ins (He.ga K "Vault") dx []) ∧ SqL K H a xs ∧ DpAll K H xs (v.cells.map cellD) ∧ SqL K H b ys ∧ DpAll K H ys (v.deeds.map deedD) ∧ VGood v ∧ ∀ H', But p H H' → VaultAt K H' p v → Q .non H'
theorem ma_Vault (T : Txt w K mg) : Ma P w K mg base 53 "Vault" (He.ga K "Vault") (spVault K) := by
  refine ma_of (N := ["self", "cells", "deeds", "name", "_", "body"]) (ps := ["self", "cells", "deeds"]) T.f_Vault_init T.g_Vault T.k_Vault ⟨rfl, rfl, rfl, by decide +kernel, rfl, by decide +kernel, by decide +kernel⟩ (fun _ _ _ _ _ _ us hl => match us, hl with | [_, _, _], _ => rfl)
    (fun vs H Q E h => by obtain ⟨p, dx, a, b, xs, ys, v, rfl, hp, ha, hxs, hb, hys, g, q⟩ := h; rfl) (fun cdv A outer s H vs Q E hr h => ?_)
  have nd : (["self", "cells", "deeds", "name", "_", "body"] : List Str).Nodup := by decide +kernel
  obtain ⟨p, dx, a, b, xs, ys, v, rfl, hp, ha, hxs, hb, hys, g, q⟩ := h
  refine ⟨_, (pss_cons (ps_if (PW.pt (pw_or (pt_not (pt_val (pe_is .list T.b_isinstance (pv 1) T.b_list boot_list))) (pw_or1 (pt_not (pt_val (pe_ca (ca_are_cells T) hr (pa_cons (pv 1) pa_nil))))))) (pss_one ps_never) pss_nil)
      (pss_cons (ps_if (PW.pt (pw_or (pt_not (pt_val (pe_is .list T.b_isinstance (pv 2) T.b_list boot_list))) (pw_or1 (pt_not (pt_val (pe_ca (ca_are_deeds T) hr (pa_cons (pv 2) (pa_cons (pe_callB call_len_seq (by rfl) T.b_len PySem.boot_len (pa_cons (pv 1) pa_nil)) pa_nil)))))))) (pss_one ps_never) pss_nil)
      (pss_cons (ps_fld (pv 0) (pe_tupleOf (by rfl) T.b_tuple (pv 1)) rfl)
      (pss_cons (ps_fld (pv 0) (pe_tupleOf (by rfl) T.b_tuple (pv 2)) rfl)
      (pss_cons (ps_fld (pv 0) (pe_dc (own := [("name", 3), ("_", 4), ("body", 5)]) (tt := tYes) rfl nd (pi_list (pv 2)) (blkOk_by (N := ["self", "cells", "deeds", "name", "_", "body"]) (sc := defScope s_Vault_init) (by decide +kernel)) (fun _ _ _ _ _ => pg_three K 3 4 5 rfl rfl nd rfl rfl rfl (.inl rfl) (.inl rfl) (.inl rfl) (.inr rfl) (.inr rfl) (.inr rfl)) (fun _ _ _ _ _ => pts_nil) (fun _ _ _ _ _ => pv 3) (fun _ _ _ _ _ => pe_ca (ca_code_of T) hr (pa_cons (pv 5) pa_nil))) rfl)
      (pss_one (ps_fld (pv 0) (pe_ca (ca_has_row T) hr (pa_cons (pe_fld (pv 0) rfl) (pa_cons pe_str pa_nil))) rfl))))))), ?_⟩
  refine ⟨_, rfl, _, _, rfl, .list ha, _, rfl, iteF ?_⟩
  refine ⟨_, rfl, a, xs, v.cells, rfl, ha, hxs, g.c0, g.c1, g.cs, _, rfl, iteF ?_⟩
  refine ⟨_, rfl, _, _, rfl, .list hb, _, rfl, iteF ?_⟩
  have lx : xs.length = v.cells.length := by rw [dps_len hxs, List.length_map]
  have ly : ys.length = v.deeds.length := by rw [dps_len hys, List.length_map]
  refine ⟨_, rfl, _, rfl, _, _, rfl, .inl ha, b, ys, v.deeds, v.cells.length, by rw [lx]; rfl, hb, hys, g.d0, g.d1, g.ds, g.nd, fun H1 s1 => ⟨_, rfl, iteF ?_⟩⟩
  refine ⟨_, rfl, .inl ⟨a, xs, rfl, s1.seq ha, fun t1 nt1 => ?_⟩⟩
  have hp1 := s1 _ _ hp
  have nt1p : t1 ≠ p := fun e => by rw [e, hp1] at nt1; cases nt1
  have s2 : Same H (upd H1 t1 (.tup xs)) := s1.trans (same_new nt1)
  refine ⟨_, rfl, p, _, dx, _, rfl, s2 _ _ hp, T.c_Vault, T.n_Vault_cells, (by show 0 < 1000; decide), ?_⟩
  have np2 : NoLst (upd H1 t1 (.tup xs)) p := .ins (s2 _ _ hp)
  have cp2 : Ch (upd H1 t1 (.tup xs)) p := .ins (s2 _ _ hp)
  generalize eH2 : upd H1 t1 (.tup xs) = H2 at s2 np2 cp2
  have at2 : H2 t1 = some (.tup xs) := by rw [← eH2, upd_same]
  generalize eH3 : upd H2 p (.ins (He.ga K "Vault") dx (putF "_cells" (.ref t1) [])) = H3
  have b3 : But p H2 H3 := eH3 ▸ But.upd
  have hp3 : H3 p = some (.ins (He.ga K "Vault") dx (putF "_cells" (.ref t1) [])) := by rw [← eH3, upd_same]
  have hb3 : SqL K H3 b ys := sqL_but np2 b3 (s2.seq hb)
  refine ⟨_, rfl, .inl ⟨b, ys, rfl, hb3, fun t2 nt2 => ?_⟩⟩
  have s4 : Same H3 (upd H3 t2 (.tup ys)) := same_new nt2
  refine ⟨_, rfl, p, _, dx, _, rfl, s4 _ _ hp3, T.c_Vault, T.n_Vault_deeds, (by show 1 < 1000; decide), ?_⟩
  generalize eH4 : upd H3 t2 (.tup ys) = H4 at s4
  have at4 : H4 t2 = some (.tup ys) := by rw [← eH4, upd_same]
  have hp4 := s4 _ _ hp3
  have np4 : NoLst H4 p := .ins hp4
  have cp4 : Ch H4 p := .ins hp4
  generalize eH5 : upd H4 p (.ins (He.ga K "Vault") dx (putF "_deeds" (.ref t2) (putF "_cells" (.ref t1) []))) = H5
  have b5 : But p H4 H5 := eH5 ▸ But.upd
  have hp5 : H5 p = some (.ins (He.ga K "Vault") dx (putF "_deeds" (.ref t2) (putF "_cells" (.ref t1) []))) := by rw [← eH5, upd_same]
  have hb5 : SqL K H5 b ys := sqL_but np4 b5 (s4.seq hb3)
  have b25 : But p H2 H5 := (b3.trans (same_but s4)).trans b5
  have at5 : H5 t1 = some (.tup xs) := b25 _ _ nt1p at2
  have nt2p : t2 ≠ p := fun e => by rw [e, hp3] at nt2; cases nt2
  have at52 : H5 t2 = some (.tup ys) := b5 _ _ nt2p at4
  have hxs5 : DpAll K H5 xs (v.cells.map cellD) := cells_but cp2 b25 (dps_same s2 hxs)
  have hys5 : DpAll K H5 ys (v.deeds.map deedD) := deeds_but cp2 b25 (dps_same s2 hys)
  refine ⟨_, rfl, b, rfl, ⟨_, hb5⟩, fun D hD => ?_⟩
  refine it_any (n := ys.length) walk_list (fun i H' => ∃ kvs, Same H5 H' ∧ H' D = some (.dK kvs) ∧ CodesR K H' kvs (v.deeds.take i)) ⟨[], same_new hD, upd_same, trivial⟩ (fun i H' _ ⟨_, s, _⟩ => s.seq hb5) ?_ ?_
  · rintro i x H' H6 hi ⟨kvs, s, eD, hc⟩ ⟨rfl, ex⟩
    obtain ⟨dd, ed, hdd⟩ := dps_get hys5 ex
    obtain ⟨d, ec, rfl⟩ := get_mapA ed
    obtain ⟨t, x1, x2, x3, rfl, ht, e1, e2, e3⟩ := dp3 (dp_same s hdd)
    cases dp_str e1
    have ok := g.ds d (List.mem_of_getElem? ec)
    refine ⟨t, _, rfl, ht, rfl, _, _, rfl, _, _, rfl, _, _, rfl, rfl, rfl, ?_⟩
    refine ⟨_, rfl, _, rfl, x3, d.2.2, v.cells.length, rfl, e3, ok.2.2.1, ok.2.2.2.2, fun H7 u s7 hu => ?_⟩
    have nn : d.1 ∉ (v.deeds.take i).map (·.1) := fun hm => by
      obtain ⟨d', hd', ed'⟩ := List.mem_map.mp hm
      obtain ⟨j, hj, ej⟩ := List.mem_iff_getElem.mp hd'
      rw [List.length_take] at hj
      rw [List.getElem_take] at ej
      have n1 : (v.deeds.map (·.1))[i]? = some d.1 := by rw [List.getElem?_map, ec]; rfl
      have n2 : (v.deeds.map (·.1))[j]? = some d.1 := by
        rw [List.getElem?_map, List.getElem?_eq_getElem (by omega : j < v.deeds.length), ej]
        exact congrArg some ed'
      have := nd_ix g.nd n1 n2
      omega
    have hl : kvs.length = (v.deeds.take i).length := codes_len hc
    have hl8 : (v.deeds.take i).length ≤ 8 := by rw [List.length_take]; have := g.d1; omega
    refine ⟨kvs, Sum.inr d.1, rfl, s7 _ _ eD, by rw [sizeLine_eq]; omega, _, ?_, upd_same, ?_⟩
    · exact fun b' o e => by
        rw [upd_ne (ne_of_none e hD)]
        exact s7 _ _ (s _ _ e)
    · rw [putK_new u (codes_no hc nn), take_more ec]
      exact codes_snoc (dp_but (.dK (s7 _ _ eD)) But.upd hu (code_noL _)) (codes_but (.dK (s7 _ _ eD)) But.upd (codes_same s7 hc))
  · rintro H6 ⟨kvs, s6, eD, hc⟩
    rw [ly, List.take_length] at hc
    have hp6 := s6 _ _ hp5
    refine ⟨_, rfl, p, _, dx, _, rfl, hp6, T.c_Vault, T.n_Vault_codes, (by show 2 < 1000; decide), ?_⟩
    have cp6 : Ch H6 p := .ins hp6
    have nDp : D ≠ p := fun e => by rw [e, hp5] at hD; cases hD
    generalize eH7 : upd H6 p (.ins (He.ga K "Vault") dx (putF "_codes" (.ref D) (putF "_deeds" (.ref t2) (putF "_cells" (.ref t1) [])))) = H7
    have b7 : But p H6 H7 := eH7 ▸ But.upd
    have hp7 : H7 p = some (.ins (He.ga K "Vault") dx (putF "_codes" (.ref D) (putF "_deeds" (.ref t2) (putF "_cells" (.ref t1) [])))) := by rw [← eH7, upd_same]
    have eD7 := b7 _ _ nDp eD
    have hc7 := codes_but cp6 b7 hc
    refine ⟨_, rfl, p, _, dx, _, _, rfl, hp7, T.c_Vault, T.n_Vault_codes, vf_codes0 .., D, kvs, v.deeds, "coin", rfl, eD7, hc7, ?_⟩
    refine ⟨_, rfl, p, _, dx, _, rfl, hp7, T.c_Vault, T.n_Vault_coins, (by show 3 < 1000; decide), ?_⟩
    generalize eH8 : upd H7 p (.ins (He.ga K "Vault") dx (putF "_coins" (.bl (hasW v.deeds "coin")) (putF "_codes" (.ref D) (putF "_deeds" (.ref t2) (putF "_cells" (.ref t1) []))))) = H8
    have b8 : But p H7 H8 := eH8 ▸ But.upd
    have hp8 : H8 p = some (.ins (He.ga K "Vault") dx (putF "_coins" (.bl (hasW v.deeds "coin")) (putF "_codes" (.ref D) (putF "_deeds" (.ref t2) (putF "_cells" (.ref t1) []))))) := by rw [← eH8, upd_same]
    have b58 : But p H5 H8 := ((same_but s6).trans b7).trans b8
    have cp5 : Ch H5 p := .ins hp5
    refine q H8 ((same_but s2).trans (b25.trans b58)) ⟨dx, t1, t2, D, hasW v.deeds "coin", kvs, hp8, ?_, ?_, b8 _ _ nDp eD7, codes_but (.ins hp7) b8 hc7⟩
    · exact .tup (.of (b58 _ _ nt1p at5)) (cells_but cp5 b58 hxs5)
    · exact .tup (.of (b58 _ _ nt2p at52)) (deeds_but cp5 b58 hys5)
end

end M

set_option Elab.async false
set_option linter.all false
set_option maxRecDepth 100000
set_option maxHeartbeats 2000000
namespace M
open PySem PySem.Spec PyProof.Rows L2

/-! ### a dict comprehension whose keys are tuples -/
/-- the new pair is put -/
theorem set_t {X : Cx} {pins : List (Addr × Obj)} {σ : L2.St} {H : Hp} {s : Shared} {E : Value → Shared → Prop} {D b : Addr} {kvs : List (List Key × V)} {k : List Key} {v : V} {r : Value} {Q : Unit → Shared → Prop} (hu : X.A.units + 1 < cLine) (I : Inv X pins σ H s) (e : H D = some (.dT kvs)) (eb : H b = some (.tup (k.map kV))) (lt : kvs.length < sizeLine)
    (rv : RelV v r) (go : ∀ s', Inv X pins σ (upd H D (.dT (putK kvs k v))) s' → Q () s') : wpAny (model X.prog X.w) X.A (dictSet D (.ref b) r) Q E s := by
  obtain ⟨z0, nd, zs, kt, dd⟩ := dt_of I.hok e
  have zl : zs.length ≤ sizeLine := (Paired.length kt) ▸ z0
  refine wpAny_dictSet_heap (show X.A.units < cLine from by omega) (key_of I.hok eb) dd (fun g' ⟨u0, es, ep, g1, g2, g3, g4, _, g5⟩ same => go _ ?_) zl
  refine d_write I (by rw [e]; exact True.intro) same ⟨u0, g1⟩ ⟨by have := length_putK kvs k v; omega, nd, _, (kt.put k eb rv).keeps fun c ys ec => ?_, u0, es, ep, g1, g2, g3, g4, g5⟩
  rw [upd_ne (ne_of ec e (fun j => nomatch j))]; exact ec
/-- D the new dict, its keys tuples -/
def tDcT (wi : TI) (g : TG) (tk tv : TE) (vs : List Nat) : TE := fun σ H Q => wi σ H fun J H1 => ∀ D, H1 D = none → ∃ W : Nat → Nat → Hp → Prop, (∃ m, W 0 m (upd H1 D (.dT []))) ∧ ∀ i m H', W i m H' → (J.stop i H' ∧ Q (.ref D) H') ∨
  (J.go i H' ∧ ∃ Nx : Hp → Prop, (∀ G, Nx G → ∃ m', m' < m ∧ W (i + 1) m' G) ∧ ∀ x G, J.yld i H' x G → g x (wipe σ vs) G fun σ2 G2 => wipe σ2 vs = wipe σ vs ∧ tk σ2 G2 fun y G3 => tv σ2 G3 fun z G4 =>
    ∃ kvs k b, y = .ref b ∧ G4 b = some (.tup (List.map kV k)) ∧ G4 D = some (.dT kvs) ∧ kvs.length < sizeLine ∧ Nx (upd G4 D (.dT (putK kvs k z))))
theorem pe_dcT {X : Cx} {kx vx tg iter : Expr} {scope : Scope} {own : List (Str × Nat)} {pos : Pos} {wi : TI} {g : TG} {tk tv : TE} (hu : X.A.units + 1 < cLine) (calm : X.calm = true) (nd : X.N.Nodup) (pi : PI X tg iter wi) (bk : BlkOk X.N X.env.scope scope own)
    (fg : ∀ (s : Shared) (H : Hp) (C : Addr) (cl : List (Str × Addr)) (fp : List Addr), PG (X.blk s H scope (compEnvC scope cl C X.env) fp) tg g)
    (fk : ∀ (s : Shared) (H : Hp) (C : Addr) (cl : List (Str × Addr)) (fp : List Addr), PE (X.blk s H scope (compEnvC scope cl C X.env) fp) kx tk)
    (fv : ∀ (s : Shared) (H : Hp) (C : Addr) (cl : List (Str × Addr)) (fp : List Addr), PE (X.blk s H scope (compEnvC scope cl C X.env) fp) vx tv) (fs : ∀ x, foldedSetIterable iter X.env x = pure x := by intro _; rfl) :
    PE X (.DictComp kx vx [⟨tg, iter, [], 0⟩] scope pos) (tDcT wi g tk tv (own.map (·.2))) := by
  refine ⟨fun pins s σ H Q I h => ?_⟩
  rw [arm_eval_DictComp]
  have fr : ∀ y ∈ scope.names, y.2 = .free → ∃ c, X.env.cells.lookup y.1 = some c := fun y hy e =>
    (bk.free y hy e).elim (fun k => I.ok.has _ (.inl k)) (fun k => I.ok.has _ (.inr k))
  refine wpAny_comprehension_free rfl fs (closure_ok fr) bk.kind (fun y hy e => by rw [bk.uniq y hy, e]) (thn (pi.run pins s σ H _ I h) fun xv s1 hx => thn hx fun itv s2 r2 => ?_)
  obtain ⟨it, fp, tn, J, H2, rfl, I2, T, st2, f2, q⟩ := r2
  refine wpAny_newObj_type (newEnv_comp ?_)
  generalize eD : s2.heap.objs.size = D
  obtain ⟨W, ⟨m0, w0⟩, turn⟩ := q D (I2.hok.fresh (Nat.le_of_eq eD))
  generalize e3 : ({ s2 with heap := s2.heap.push { cls := .type "dict", data := .dict #[] } } : Shared) = s3
  have h3 : s3.heap = s2.heap.push { cls := .type "dict", data := .dict #[] } := e3 ▸ rfl
  have I3 : Inv X pins σ (upd H2 D (.dT [])) s3 := by
    rw [← e3]; exact I2.laid (t' := s2.toks) (fun b o e => Heap.get?_push_of_some _ e) (Nat.le_of_eq eD) (eD ▸ dt_empty s2.heap I2.big)
  have small : ∀ b ∈ fp, b < s2.heap.objs.size := fun b hb => Heap.lt_size (T.obj _ _ st2 b hb).choose_spec.1
  have f3 : ∀ b ∈ fp, FpOk X pins (upd H2 D (.dT [])) b ∧ b < s3.heap.objs.size := fun b hb => by
    have lt := small b hb
    exact ⟨⟨(upd_ne (eD ▸ Nat.ne_of_lt lt)).trans (f2 b hb).1, (f2 b hb).2⟩, by rw [h3, Heap.size_push]; exact Nat.lt_succ_of_lt lt⟩
  have st3 : tn 0 s3.heap := T.keep _ _ _ st2 fun b _ o e => h3 ▸ Heap.get?_push_of_some _ e
  have I4 := block_start I3 bk nd f3
  have a1 := fg s3 (upd H2 D (.dT [])) s3.heap.objs.size (cellsFrom (s3.heap.objs.size + 1) scope.names (cloFrom X.env.cells scope.names [])) fp
  have a2 := fk s3 (upd H2 D (.dT [])) s3.heap.objs.size (cellsFrom (s3.heap.objs.size + 1) scope.names (cloFrom X.env.cells scope.names [])) fp
  have a3 := fv s3 (upd H2 D (.dT [])) s3.heap.objs.size (cellsFrom (s3.heap.objs.size + 1) scope.names (cloFrom X.env.cells scope.names [])) fp
  have nf : ∀ b ∈ fp, (upd H2 D (.dT [])) b = none := fun b hb => (f3 b hb).1.1
  show codeAny _ _ (.compStart (.DictComp kx vx [⟨tg, iter, [], 0⟩] scope pos) 0 (.ref it) (.ref D) (compEnvC scope (cellsFrom (s3.heap.objs.size + 1) scope.names (cloFrom X.env.cells scope.names [])) s3.heap.objs.size X.env)) _ { s3 with heap := pushCells (s3.heap.push { cls := .type "dict", data := .dict #[] }) scope.names }
  generalize ec : compEnvC scope (cellsFrom (s3.heap.objs.size + 1) scope.names (cloFrom X.env.cells scope.names [])) s3.heap.objs.size X.env = ce at I4 a1 a2 a3 ⊢
  have cL : ce.locals = s3.heap.objs.size := ec ▸ rfl
  generalize eH : upd H2 D (.dT []) = H3 at I3 I4 a1 a2 a3 w0 nf f3
  generalize e4 : ({ s3 with heap := pushCells (s3.heap.push { cls := .type "dict", data := .dict #[] }) scope.names } : Shared) = s4 at I4 ⊢
  have st4 : tn 0 s4.heap := T.keep _ _ _ st3 fun b _ o e => e4 ▸ pushCells_keeps _ _ _ _ (Heap.get?_push_of_some _ e)
  have fpk : ∀ {σ' : L2.St} {H' : Hp} {s' : Shared}, Inv (X.blk s3 H3 scope ce fp) [] σ' H' s' → (∀ b ∈ fp, H' b = none) → ∀ b ∈ fp, FpOk (X.blk s3 H3 scope ce fp) [] H' b := fun I' hn b hb =>
    ⟨hn b hb, (I'.ok.exf b hb).1, I'.ok.exfs b hb, .inl hb, fun x c e => (I'.ok.exf b hb).2 x c e, fun p hp => nomatch (show p ∈ ([] : List (Addr × Obj)) from hp)⟩
  refine (fun lp => codeAny_compStart_dict lp (T.self X.A 0 _ _ _ st4 lp)) (compLoop_anyD (fun n s' => ∃ i H', Inv (X.blk s3 H3 scope ce fp) [] (wipe σ (own.map (·.2))) H' s' ∧ tn i s'.heap ∧ (∀ b ∈ fp, H' b = none) ∧ W i n H') ?_ m0 ⟨0, H3, I4, st4, nf, w0⟩)
  rintro n s5 ⟨i, H5, I5, st5, n5, w5⟩
  rcases turn i n H5 w5 with ⟨stop, qq⟩ | ⟨go, Nx, less, step⟩
  · refine thnF (T.done (X.blk s3 H3 scope ce fp) rfl rfl rfl calm i [] s5 _ H5 (fun _ _ => False) I5 (fpk I5 n5) st5 stop) fun r s6 ⟨hr, I6⟩ => ?_
    subst hr
    have I7 : Inv X pins σ H5 s6 := I3.call' (ch := fp) I6.os I6.base I6.hok I6.bare fun b hb => ⟨(f3 b hb).1.2.2.2.1, (f3 b hb).1.2.1, (f3 b hb).1.2.2.2.2.1, (f3 b hb).1.2.2.2.2.2⟩
    have nC : H5 s3.heap.objs.size = none := cL ▸ (show H5 ce.locals = none from I6.free)
    obtain ⟨m, hm, _⟩ := I6.loc
    refine ⟨m, cL ▸ (show s6.heap.Ns ce.locals m from hm), fun h'' sb => ?_⟩
    obtain ⟨p0, p1, p2, p3, p4, p5⟩ := I3.fpOk (Nat.le_refl _) nC
    exact ⟨.ref D, H5, I7.turned (t' := s6.toks) (fun b o hb e => (sb.2 b hb).trans e) p0 p1 p3 p4 p5, rfl, qq⟩
  · refine thnF (T.item (X.blk s3 H3 scope ce fp) rfl rfl rfl calm i [] s5 _ H5 (fun _ _ => False) I5 (fpk I5 n5) st5 go) fun r s6 ⟨u, hr, h6⟩ => ?_
    subst hr
    refine thnF h6 fun _ s7 ⟨x, H7, I7, r7, y7, st7, n7⟩ => thnF (a1.run _ s7 _ H7 x u _ (I7.pinned (fpk I7 n7) (T.obj _ _ st7)) r7 (step x H7 y7)) fun _ s8 ⟨σ8, H8, I8, hw8, q8⟩ => ?_
    refine wpAny_pure (show (if true = true then _ else _) from ?_)
    refine thnF (a2.run _ s8 σ8 H8 _ I8 q8) fun k10 s10 ⟨yk, H10, I10, r10, q10⟩ => thnF (a3.run _ s10 σ8 H10 _ I10 q10) fun z2 s11 ⟨yv, H11, I11, r11, kvs, k, b, ek, eb, eD1, lt, nx⟩ => ?_
    subst ek
    cases (show k10 = Value.ref b from r10)
    refine set_t (X := X.blk s3 H3 scope ce fp) hu I11 eD1 eb lt r11 fun s12 I12 => ?_
    obtain ⟨m', hm, w'⟩ := less _ nx
    have pk : ∀ b ∈ fp, ∀ o, s7.heap.get? b = some o → s12.heap.get? b = some o ∧ (upd H11 D (.dT (putK kvs k yv))) b = none := fun b hb o e =>
      have z := I12.pin (b, o) (List.mem_append_right _ (List.mem_append_right _ (mem_pinsAt hb e)))
      ⟨z.1, z.2.1⟩
    refine ⟨m', hm, i + 1, _, (I12.unpinned (pins := [])).weak (by rw [← hw8, wipe_length]) (fun j v e => (wipe_some (hw8 ▸ e)).1), T.keep _ _ _ st7 fun b hb o e => (pk b hb o e).1, fun b hb => ?_, w'⟩
    obtain ⟨o, e, _⟩ := T.obj _ _ st7 b hb
    exact (pk b hb o e).2

end M

set_option Elab.async false
set_option linter.all false
set_option maxRecDepth 100000
set_option maxHeartbeats 2000000
namespace M
open PySem PySem.Spec PyProof.Rows L2

/-- the def x of the module, its parameters told -/
structure Cf (P : Program) (w : World) (K : PySem.W.Frag) (mg : Str → Option Value) (base : Heap) (k : Nat) (x : Str) (ps : List Str) (sp : Sp) : Prop where
  ex : ∃ (fd : FuncData) (oc : Value) (od : Option Addr) (osl : Array (Option Value)), K.lookup (He.ga K x) = some ⟨oc, od, .func fd, osl⟩ ∧ FnOk P w K mg base CX0 k (He.ga K x) fd ps sp ∧ PySem.W.keepIn K (.ref (He.ga K x)) = true ∧ Binds K fd ps []
  g : mg x = some (.ref (He.ga K x))
theorem cf_of {P : Program} {w : World} {K : PySem.W.Frag} {mg : Str → Option Value} {base : Heap} {x : Str} {st : Stmt} {N ps : List Str} {k : Nat} {sp : Sp} (F : ∃ fd, FunD K x x (defArgs st) (defBody st) (defScope st) [] [] (He.fAd K (x, none)) fd) (g : mg x = some (.ref (He.ga K x))) (S : FnScope N ps (defScope st)) (hb : BindsH x x st ps)
    (len : ∀ vs H Q E, sp vs H Q E → vs.length = ps.length) (hbody : BodyH P w K mg base x st N k (He.fAd K (x, none)) sp) : Cf P w K mg base (k + 1) x ps sp := by
  obtain ⟨fd, F⟩ := F
  obtain ⟨oc, od, dV, kV, doc, pm, an, cdv, ct, osl, e, lk, _⟩ := F.ex
  exact ⟨⟨fd, oc, od, osl, lk, fn_d F S len hbody, F.kp, F.bindsN hb⟩, g⟩
theorem Cf.mono {P : Program} {w : World} {K : PySem.W.Frag} {mg : Str → Option Value} {base : Heap} {x : Str} {ps : List Str} {j k : Nat} {sp : Sp} (c : Cf P w K mg base j x ps sp) (h : j ≤ k) : Cf P w K mg base k x ps sp := by
  obtain ⟨fd, oc, od, osl, lk, F, r⟩ := c.ex
  exact ⟨⟨fd, oc, od, osl, lk, F.mono h, r⟩, c.g⟩
theorem ne_ho {H : Hp} {a b : Addr} {o p : HO} (ha : H a = some o) (hb : H b = some p) (n : o ≠ p) : a ≠ b := fun e => n (by rw [e, hb] at ha; exact (Option.some.inj ha).symm)
theorem getD_mem {l : List Int} {i : Nat} {d : Int} (h : i < l.length) : l.getD i d ∈ l := by
  rw [List.getD_eq_getElem?_getD, List.getElem?_eq_getElem h]
  exact List.getElem_mem h
theorem atK {l : List Int} {k : Int} {n : Nat} (h0 : 0 ≤ k) (hk : k < n) (hn : l.length = n) : atI (l.map V.int) k = some (.int (l.getD k.toNat 0)) := by
  have e : ((k.toNat : Nat) : Int) = k := Int.toNat_of_nonneg h0
  have hl : k.toNat < l.length := by omega
  have := atI_nat (xs := l.map V.int) (j := k.toNat) (v := .int (l.getD k.toNat 0)) (by
    rw [List.getElem?_map, List.getD_eq_getElem?_getD, List.getElem?_eq_getElem hl]
    rfl)
  rw [e] at this
  exact this
theorem none_of {H H' : Hp} {x : Addr} (s : Same H H') (h : H' x = none) : H x = none := by
  cases e : H x with
  | none => rfl
  | some o => rw [s _ _ e] at h; cases h
theorem boot_all : bootBuiltins "all" = some (.builtin "all") := by decide +kernel

end M

set_option Elab.async false
set_option linter.all false
set_option maxRecDepth 100000
set_option maxHeartbeats 2000000
namespace M
open PySem PySem.Spec PyProof.Rows L2

/-! ### an own error without arguments -/
section
variable {X : Cx} {C : Addr} {bmB : List Value} {B newId initId : String}
theorem pmk_own0 {x : Str} {p pos : Pos} (F : ExcBaseFacts B newId initId bmB) (q : PySem.W.excIn X.K C bmB newId = true) (gC : X.mg x = some (.ref C)) (kC : PySem.W.keepIn X.K (.ref C) = true) (r : Raises X (.ref C)) (hg : Gl X x := by rfl)
    (hdb : (x == ("__debug__" : Str)) = false := by decide) : PMk X (.Call (.Name x p) [] [] pos) (fun _ H Q => Q (.ref C) none H) := by
  intro pins s σ H Q I h
  refine wpAny_Call_Name_kw (ld_glob I hg gC ?_ hdb)
  refine PySem.W.callWith_K0 I.kIn kC ?_
  show wpAny _ _ (call (.ref C) []) _ _ _
  obtain ⟨bm, N, nm, qn, bs, hdct, sn, sub, ab, col, dd, k0, k1, k2, k3, k5, mN, hC, hN, hni, T⟩ := exc_obj I.kIn q
  refine wpAny_call_exc_subT F T hC hN hni (fun h' e hm => ?_) (Nat.zero_le _)
  exact mk_of I hm r h (I.hok.gone hm.new)
end
/-! ### defs that may raise -/
structure CaX (P : Program) (w : World) (K : PySem.W.Frag) (mg : Str → Option Value) (base : Heap) (k : Nat) (x : Str) (sp : Sp) : Prop where
  ex : ∃ (f : Addr) (fd : FuncData) (ps : List Str), FnOk P w K mg base (L2.CX P w) k f fd ps sp ∧ mg x = some (.ref f) ∧ PySem.W.keepIn K (.ref f) = true ∧ Binds K fd ps []
structure CfX (P : Program) (w : World) (K : PySem.W.Frag) (mg : Str → Option Value) (base : Heap) (k : Nat) (x : Str) (ps : List Str) (sp : Sp) : Prop where
  ex : ∃ (fd : FuncData) (oc : Value) (od : Option Addr) (osl : Array (Option Value)), K.lookup (He.ga K x) = some ⟨oc, od, .func fd, osl⟩ ∧ FnOk P w K mg base (L2.CX P w) k (He.ga K x) fd ps sp ∧ PySem.W.keepIn K (.ref (He.ga K x)) = true ∧ Binds K fd ps []
  g : mg x = some (.ref (He.ga K x))
section
variable {P : Program} {w : World} {K : PySem.W.Frag} {mg : Str → Option Value} {base : Heap} {x m q : Str} {st : Stmt} {N ps : List Str} {k : Nat} {sp : Sp} {C f : Addr}
abbrev BodyX (P : Program) (w : World) (K : PySem.W.Frag) (mg : Str → Option Value) (base : Heap) (q : Str) (st : Stmt) (N : List Str) (k : Nat) (f : Addr) (sp : Sp) : Prop := ∀ (cdv : Value) (A : Around) (outer : List Env) (s : Shared) (H : Hp) (vs : List V) (Q : VK) (E : XK), Room k (A.deeper (envOfC q (defScope st) s.heap.objs.size f cdv)) → sp vs H Q E →
      ∃ t, PSs (cxOf (L2.CX P w) P w K mg base N q (defScope st) f cdv A outer s H E) (defBody st) t ∧ t { nx := fun _ H' => Q .non H', rt := Q } (start N vs) H
theorem ca_ofX (F : ∃ fd, FunD K x x (defArgs st) (defBody st) (defScope st) [] [] (He.fAd K (x, none)) fd) (g : mg x = some (.ref (He.ga K x))) (S : FnScope N ps (defScope st)) (hb : BindsH x x st ps) (len : ∀ vs H Q E, sp vs H Q E → vs.length = ps.length)
    (hbody : BodyX P w K mg base x st N k (He.fAd K (x, none)) sp) : CaX P w K mg base (k + 1) x sp := by
  obtain ⟨fd, F⟩ := F
  exact ⟨_, fd, ps, F.ok S len hbody, g, F.kp, F.bindsN hb⟩
theorem cf_ofX (F : ∃ fd, FunD K x x (defArgs st) (defBody st) (defScope st) [] [] (He.fAd K (x, none)) fd) (g : mg x = some (.ref (He.ga K x))) (S : FnScope N ps (defScope st)) (hb : BindsH x x st ps) (len : ∀ vs H Q E, sp vs H Q E → vs.length = ps.length)
    (hbody : BodyX P w K mg base x st N k (He.fAd K (x, none)) sp) : CfX P w K mg base (k + 1) x ps sp := by
  obtain ⟨fd, F⟩ := F
  obtain ⟨oc, od, dV, kV, doc, pm, an, cdv, ct, osl, e, lk, _⟩ := F.ex
  exact ⟨⟨fd, oc, od, osl, lk, F.ok S len hbody, F.kp, F.bindsN hb⟩, g⟩
theorem CfX.mono {j : Nat} (c : CfX P w K mg base j x ps sp) (h : j ≤ k) : CfX P w K mg base k x ps sp := by
  obtain ⟨fd, oc, od, osl, lk, F, r⟩ := c.ex
  exact ⟨⟨fd, oc, od, osl, lk, F.mono h, r⟩, c.g⟩
/-- who raises nothing may stand among those who may -/
theorem fn_toX {fd : FuncData} (F : FnOk P w K mg base CX0 k f fd ps sp) : FnOk P w K mg base (L2.CX P w) k f fd ps sp :=
  ⟨F.len, fun A outer s H args us vs Q E hr he hb hv h => codeAny_mono (F.run A outer s H args us vs Q E hr he hb hv h) fun r s' hq => by
    cases r with
    | error e => exact hq.elim
    | ok fl => cases fl <;> exact hq⟩
theorem Cf.toX (c : Cf P w K mg base k x ps sp) : CfX P w K mg base k x ps sp := by
  obtain ⟨fd, oc, od, osl, lk, F, r⟩ := c.ex
  exact ⟨⟨fd, oc, od, osl, lk, fn_toX F, r⟩, c.g⟩
end
section
variable {X : Cx} {k j : Nat} {x : Str} {sp : Sp} {p pos : Pos} {e : Expr} {es : List Expr} {t : TA}
theorem pe_caX {W : WX} (c : CaX X.prog X.w X.K X.mg X.base k x sp) (hr : Room j X.A) (tk : Takes X W) (ha : PA X (e :: es) t) (hk : k ≤ j := by decide) (hg : Gl X x := by rfl)
    (hdb : (x == ("__debug__" : Str)) = false := by decide) (he : starEach (e :: es) X.env = (false, eval e X.env) :: starEach es X.env := by rfl) (hpl : (backTo pos (starEach es X.env)).any (·.1) = false := by rfl) :
    PE X (.Call (.Name x p) (e :: es) [] pos) (tCallS sp (WE W) t) := by
  obtain ⟨f, fd, ps, F, hm, kp, b⟩ := c.ex
  exact pe_callS F (hr.mono hk) hg hm kp b (fun σ => passAt tk σ) ha hdb he hpl
/-- of several defs that the slot may hold, such as may raise -/
structure HeldX (P : Program) (w : World) (K : PySem.W.Frag) (mg : Str → Option Value) (base : Heap) (k : Nat) (f : Addr) (sp : Sp) : Prop where
  ex : ∃ (fd : FuncData) (ps : List Str), FnOk P w K mg base (L2.CX P w) k f fd ps sp ∧ PySem.W.keepIn K (.ref f) = true ∧ Binds K fd ps []
def tCallAX (i : Nat) (S : Addr → Option Sp) (E : XK) (t : TA) : TE := fun σ H Q => ∃ f sp, σ[i]? = some (some (.ref f)) ∧ S f = some sp ∧ t σ H fun vs H1 => sp vs H1 Q E
theorem pe_callAX {i : Nat} {S : Addr → Option Sp} {E : XK} (A : ∀ f sp, S f = some sp → HeldX X.prog X.w X.K X.mg X.base k f sp) (hr : Room k X.A) (tk : Takes X (fun cls d _ H => E cls d H)) (hN : X.N[i]? = some x) (hv : Vis X.env.scope x) (ha : PA X (e :: es) t)
    (hdb : (x == ("__debug__" : Str)) = false := by decide) (hcd : (x == ("__classdict__" : Str)) = false := by decide)
    (he : starEach (e :: es) X.env = (false, eval e X.env) :: starEach es X.env := by rfl) (hpl : (backTo pos (starEach es X.env)).any (·.1) = false := by rfl) : PE X (.Call (.Name x p) (e :: es) [] pos) (tCallAX i S E t) := by
  refine ⟨fun pins s σ H Q I h => ?_⟩
  obtain ⟨f, sp, hs, hS, ht⟩ := h
  obtain ⟨fd, ps, F, hk, hb⟩ := (A f sp hS).ex
  refine (pe_callL (i := i) (f := f) (sp := sp) (dvs := []) (E := E) F hr hN hv hk hb .nil (fun pins σ H s e s' I c => passAt tk σ pins H s e s' I c) ha hdb hcd he hpl).run pins s σ H Q I ⟨hs, ?_⟩
  have e0 : (fun (vs : List V) (H1 : Hp) => sp (vs ++ []) H1 Q E) = fun vs H1 => sp vs H1 Q E := by
    funext vs H1
    rw [List.append_nil]
  show t σ H (fun vs H1 => sp (vs ++ []) H1 Q E)
  rw [e0]
  exact ht
end

end M

set_option Elab.async false
set_option linter.all false
set_option maxRecDepth 100000
set_option maxHeartbeats 2000000
namespace M
open PySem PySem.Spec PyProof.Rows L2

/-! ### try with clauses, each with a name or without -/
/-- an exception has come down to the clauses: it is at a; u is the state without it, s the state now -/
structure Came (X : Cx) (pins : List (Addr × Obj)) (G : Heap) (u s : Shared) (a : Addr) (σ : L2.St) (H : Hp) (cls : Value) (d : Option Addr) : Prop where
  inv : Inv X pins σ H u
  out : ∀ b o, u.heap.get? b = some o → b ∉ frs X.stack → G.get? b = some o
  up : u.heap.UpToSlots s.heap
  fly : HandSPX.FlyingZ G (X.env :: X.outer) a (Zc cls d) s.heap
  no : H a = none
  os : s.os = u.os
  bare : AllBare s.gens
section
variable {X : Cx} {pins : List (Addr × Obj)} {G : Heap} {u s : Shared} {a : Addr} {σ : L2.St} {H : Hp} {cls : Value} {d : Option Addr}
theorem Came.now (c : Came X pins G u s a σ H cls d) : Inv X pins σ H s := c.inv.landed c.out c.fly.1 c.up c.os c.bare
theorem Came.spot (c : Came X pins G u s a σ H cls d) (hf : X.env.frame = some X.env.locals) : ∃ oe, s.heap.get? a = some oe ∧ Zc cls d oe ∧ (∃ vs, oe.data = .fields vs) ∧ a ≠ X.env.locals ∧ a ∉ X.fs := by
  obtain ⟨oe, vs, e1, e2, e3⟩ := c.fly.there
  have away : ∀ env ∈ X.env :: X.outer, env.frame ≠ some a := by
    intro env hm z
    obtain ⟨_, o2, q1, q2⟩ := c.fly.2.2.1.mem (List.mem_filterMap.mpr ⟨env, hm, z⟩ : a ∈ frs (X.env :: X.outer))
    cases e1.symm.trans q1
    exact q2 _ e3
  refine ⟨oe, e1, e2, ⟨vs, e3⟩, ?_, ?_⟩
  · intro z
    exact away X.env List.mem_cons_self (hf.trans (congrArg some z.symm))
  · intro hm
    obtain ⟨env, h1, h2⟩ := List.mem_filterMap.mp hm
    exact away env (List.mem_cons_of_mem _ h1) h2
theorem Came.on (c : Came X pins G u s a σ H cls d) {h : Heap} (fl : HandSPX.FlyingZ G (X.env :: X.outer) a (Zc cls d) h) (up : s.heap.UpToSlots h) : Came X pins G u { s with heap := h } a σ H cls d :=
  ⟨c.inv, c.out, c.up.trans up, fl, c.no, c.os, c.bare⟩
end
/-- the clauses keep their wish -/
def Hands (X : Cx) (hds : List ExceptHandler) (wish : Ends → WX) : Prop := ∀ (pins : List (Addr × Obj)) (G : Heap) (u s : Shared) (a : Addr) (σ : L2.St) (H : Hp) (cls : Value) (d : Option Addr) (D : Ends), Came X pins G u s a σ H cls d → wish D cls d σ H →
  wpAny (model X.prog X.w) X.A (handleBy (.ref a) X.env hds) (SP X pins D) X.xe s
/-- a clause without a name, then the others -/
def wOne (K : PySem.W.Frag) (c : Value) (ts : Addr → Value → Option Addr → TS) (wish : Ends → WX) : Ends → WX := fun D cls d σ H =>
  ∃ b, PySem.W.exmOne K cls c = some b ∧ (b = true → ∀ a, H a = none → ts a cls d D σ H) ∧ (b = false → wish D cls d σ H)
/-- the ends of a suite whose clause keeps the exception at the slot i -/
def lets (i : Nat) (D : Ends) : Ends := ⟨fun σ H => D.nx (σ.set i none) H, D.rt, fun σ H => D.bk (σ.set i none) H, fun σ H => D.ct (σ.set i none) H⟩
/-- a clause with a name, its slot i, then the others -/
def wNmd (K : PySem.W.Frag) (c : Value) (i : Nat) (ts : Addr → Value → Option Addr → TS) (wish : Ends → WX) : Ends → WX := fun D cls d σ H =>
  ∃ b, PySem.W.exmOne K cls c = some b ∧ (b = true → ∀ a, H a = none → ts a cls d (lets i D) (σ.set i (some (.ref a))) H) ∧ (b = false → wish D cls d σ H)
section
variable {X : Cx} {x n : Str} {c : Value} {i : Nat} {b0 : Stmt} {bs body orelse : List Stmt} {hd : ExceptHandler} {hds : List ExceptHandler} {wish : Ends → WX} {ts : Addr → Value → Option Addr → TS} {np pos hpos : Pos} {Wout : WX} {tb : WX → TS} {te : TS}
theorem hands_nil (hs : X.stack = X.env :: X.outer) (hf : X.env.frame = some X.env.locals) (tk : Takes X Wout) : Hands X [] (fun _ => Wout) := by
  intro pins G u s a σ H cls d D c h
  apply wpAny_handleBy_nil
  obtain ⟨_, _, _, oe, vs, T, oT, tr, e1, e2, e3, e4, _⟩ := id c.fly
  unfold PySem.passOn
  apply wpAny_bind
  refine wpAny_field e1 e3 e4 ?_
  have ne : ¬ ((Value.ref T == Value.none) = true) := by simp
  have last : wpAny (model X.prog X.w) X.A (setFlight (.ref a) X.env.frame) (fun _ z => wpAny (model X.prog X.w) X.A (throw (.ref a) : Sem Flow) (SP X pins D) X.xe z) X.xe s := by
    rw [hf]
    apply HandSPX.setFlight_upZ c.fly
    intro h4 held up
    apply wpAny_throw
    apply tk
    refine ⟨a, G, u, pins, σ, H, cls, d, rfl, c.inv, c.out, c.up.trans up, Or.inr (Or.inr ?_), c.no, c.os, c.bare, h⟩
    rw [hs]
    exact held
  simp only [if_neg ne]
  first
    | exact wpAny_bind (wpAny_pure (wpAny_bind last))
    | exact wpAny_bind last
theorem came_test {pins : List (Addr × Obj)} {G : Heap} {u s : Shared} {a : Addr} {σ : L2.St} {H : Hp} {cls : Value} {d : Option Addr} {b : Bool} (hc : Names X x c) (hf : X.env.frame = some X.env.locals) (k : Came X pins G u s a σ H cls d) (hb : PySem.W.exmOne X.K cls c = some b)
    {E Z : Value → Shared → Prop} {Q : Bool → Shared → Prop} (q : Q b s) : wpAny (model X.prog X.w) (X.A.mark (some (.ref a))) (eval (.Name x np) X.env) (fun v s1 => wpAny (model X.prog X.w) (X.A.mark (some (.ref a))) (excMatches (.ref a) v) Q E s1) Z s := by
  obtain ⟨oe, e1, e2, ⟨vs, e3⟩, nL, nF⟩ := k.spot hf
  have J := k.now
  have S := J.suite e1 e3 k.no nL nF
  have LT : PySem.W.Looks (model X.prog X.w) s.heap (typeOf (.ref a)) cls := by
    intro A1 Q1 E1 s1 keep q1
    refine wpAny_typeOf_ref (keep _ _ e1) ?_
    rw [e2.1]
    exact q1
  have LM := PySem.W.exm_one (M := model X.prog X.w) J.kIn LT hb
  have q2 := LM.here (A := X.A.mark (some (.ref a))) (E := E) q
  obtain ⟨h1, h2, h3⟩ := hc
  rcases h3 with h3 | ⟨h3, h4, h5⟩
  · exact ld_glob (X := X.suite a ((a, oe) :: (X.pn ++ pins))) S h1 h3 q2 h2
  · exact ld_blt (X := X.suite a ((a, oe) :: (X.pn ++ pins))) S h1 h3 h4 q2 h5 h2
theorem hands_one (hc : Names X x c) (hf : X.env.frame = some X.env.locals)
    (su : ∀ (a : Addr) (oe : Obj) (cls : Value) (d : Option Addr) (pn : List (Addr × Obj)), Zc cls d oe → (∃ vs, oe.data = .fields vs) → PSs (X.suite a ((a, oe) :: pn)) (b0 :: bs) (ts a cls d)) (r : Hands X hds wish) :
    Hands X (.ExceptHandler (some (.Name x np)) none (b0 :: bs) hpos :: hds) (wOne X.K c ts wish) := by
  intro pins G u s a σ H cls d D k h
  obtain ⟨b, h1, h2, h3⟩ := h
  refine wpAny_handleBy_cons (codeAny_handlers_test ?_) (fun q => by cases q)
  refine came_test (d := d) hc hf k h1 ?_
  cases b
  · exact r pins G u s a σ H cls d D k (h3 rfl)
  · apply codeAny_handlers_suite
    apply HandSPX.lands_againZ k.fly
    intro h4 fl4 up4
    have k4 := k.on fl4 up4
    obtain ⟨oe, e1, e2, ⟨vs, e3⟩, nL, nF⟩ := k4.spot hf
    have S := k4.now.suite e1 e3 k4.no nL nF
    refine wpAny_mono ((su a oe cls d (X.pn ++ pins) e2 ⟨vs, e3⟩).run [] _ σ H D S (h2 rfl a k.no)) ?_ (fun _ _ z => z.elim)
    intro f s6 z
    have ok := k.inv.ok
    cases f with
    | ret v =>
      obtain ⟨v6, σ6, H6, S6, z1, z2⟩ := z
      exact ⟨v6, σ6, H6, S6.unsuite ok, z1, z2⟩
    | next => exact match z with | ⟨σ6, H6, S6, z1⟩ => ⟨σ6, H6, S6.unsuite ok, z1⟩
    | brk => exact match z with | ⟨σ6, H6, S6, z1⟩ => ⟨σ6, H6, S6.unsuite ok, z1⟩
    | cont => exact match z with | ⟨σ6, H6, S6, z1⟩ => ⟨σ6, H6, S6.unsuite ok, z1⟩
theorem hands_as (hc : Names X x c) (hf : X.env.frame = some X.env.locals) (hN : X.N.Nodup) (hi : X.N[i]? = some n) (hl : X.env.kindOf n = some .local)
    (su : ∀ (a : Addr) (oe : Obj) (cls : Value) (d : Option Addr) (pn : List (Addr × Obj)), Zc cls d oe → (∃ vs, oe.data = .fields vs) → PSs (X.suite a ((a, oe) :: pn)) (b0 :: bs) (ts a cls d)) (r : Hands X hds wish) :
    Hands X (.ExceptHandler (some (.Name x np)) (some n) (b0 :: bs) hpos :: hds) (wNmd X.K c i ts wish) := by
  intro pins G u s a σ H cls d D k h
  obtain ⟨b, h1, h2, h3⟩ := h
  refine wpAny_handleBy_cons (codeAny_handlers_test ?_) (fun q => by cases q)
  refine came_test (d := d) hc hf k h1 ?_
  cases b
  · exact r pins G u s a σ H cls d D k (h3 rfl)
  · apply codeAny_handlers_suite_as
    apply HandSPX.lands_againZ k.fly
    intro h4 fl4 up4
    have k4 := k.on fl4 up4
    obtain ⟨oe, e1, e2, ⟨vs, e3⟩, nL, nF⟩ := k4.spot hf
    have S := k4.now.suite e1 e3 k4.no nL nF
    refine store_ok (X := X.suite a ((a, oe) :: (X.pn ++ pins))) (v := .ref a) S hN hi (.inl hl) rfl ?_ (.inr hl)
    intro s5 S5
    refine wpAny_mono ((su a oe cls d (X.pn ++ pins) e2 ⟨vs, e3⟩).run [] s5 _ H (lets i D) S5 (h2 rfl a k.no)) ?_ (fun _ _ z => z.elim)
    intro f s6 z
    have ok := k.inv.ok
    cases f with
    | ret v =>
      obtain ⟨v6, σ6, H6, S6, z1, z2⟩ := z
      exact gone_ok (S6.unsuite ok) hN hi hl fun s7 J7 => ⟨v6, _, H6, J7, z1, z2⟩
    | next => exact match z with | ⟨σ6, H6, S6, z1⟩ => gone_ok (S6.unsuite ok) hN hi hl fun s7 J7 => ⟨_, H6, J7, z1⟩
    | brk => exact match z with | ⟨σ6, H6, S6, z1⟩ => gone_ok (S6.unsuite ok) hN hi hl fun s7 J7 => ⟨_, H6, J7, z1⟩
    | cont => exact match z with | ⟨σ6, H6, S6, z1⟩ => gone_ok (S6.unsuite ok) hN hi hl fun s7 J7 => ⟨_, H6, J7, z1⟩
/-- try: body, then clauses that keep their wish, and an else -/
theorem ps_tryH (hh : Hands X (hd :: hds) wish) (hs : X.stack = X.env :: X.outer) (hf : X.env.frame = some X.env.locals)
    (hb : ∀ (W : WX) (pn : List (Addr × Obj)) (xe : Value → Shared → Prop), Takes (X.tr pn xe) W → PassesOwn (model X.prog X.w) X.A X.env xe → PSs (X.tr pn xe) body (tb W)) (ho : PSs X orelse te) :
    PS X (.Try body (hd :: hds) orelse [] pos) (fun D σ H => tb (wish D) ⟨te D, D.rt, D.bk, D.ct⟩ σ H) := by
  refine ⟨?_⟩
  intro pins s σ H D I h
  have hfr : X.A.frames = some (X.env :: X.outer) := I.ok.frames.trans (congrArg some hs)
  let xe : Value → Shared → Prop := fun e z => wpAny (model X.prog X.w) X.A (noteFrame e X.env) (fun _ z2 => wpAny (model X.prog X.w) X.A (setFlight e none) (fun _ z3 => wpAny (model X.prog X.w) X.A (handleBy e X.env (hd :: hds)) (SP X pins D) X.xe z3) X.xe z2) X.xe z
  have catches : Takes (X.tr (X.pn ++ pins) xe) (wish D) := by
    intro e z w
    obtain ⟨a, G, z0, pins1, σ1, H1, cls, d, rfl, J, w1, w2, w3, w4, w5, w6, w7⟩ := w
    have w3 : Sky G X.stack a (Zc cls d) X.env.locals z.heap := w3
    rw [hs] at w3
    refine Sky.land (M := model X.prog X.w) (A := X.A) (E₁ := X.xe) Zc.steady hfr hf w3 ?_
    intro h3 fl up
    exact hh pins G z0 { z with heap := h3 } a σ1 H1 cls d D ⟨J.ofTry I.ok, w1, w2.trans up, fl, w4, w5, w6⟩ w7
  apply wpAny_Try_except
  refine wpAny_mono ((hb (wish D) (X.pn ++ pins) xe catches PassesOwn.looking).run [] s σ H _ (I.toTry _) h) ?_ (fun _ _ z => z)
  intro f s1 z
  cases f with
  | ret v => exact match z with | ⟨v1, σ1, H1, J, z1, z2⟩ => ⟨v1, σ1, H1, J.ofTry I.ok, z1, z2⟩
  | brk => exact match z with | ⟨σ1, H1, J, z1⟩ => ⟨σ1, H1, J.ofTry I.ok, z1⟩
  | cont => exact match z with | ⟨σ1, H1, J, z1⟩ => ⟨σ1, H1, J.ofTry I.ok, z1⟩
  | next =>
    obtain ⟨σ1, H1, J, z1⟩ := z
    exact ho.run pins s1 σ1 H1 D (J.ofTry I.ok) z1
end

end M

set_option Elab.async false
set_option linter.all false
set_option maxRecDepth 100000
set_option maxHeartbeats 2000000
namespace M
open PySem PySem.Spec PyProof.Rows L2

/-! ### errors with a field -/
theorem oexS_ok {K : PySem.W.Frag} {C : Addr} (h : oexS K C = true) : ∃ nm q N bs bm sn sub ab col dd k0 k1 k2 k3 k5, K.lookup C = some (excClassObj nm q C N bs bm true sn sub ab col dd k0 k1 k2 k3 k5 "ValueError.__new__") ∧ PySem.HandSPX.refsVE bm = true := by
  unfold oexS at h
  split at h
  · rename_i t dd cd sl hl
    split at h
    · rename_i D bm k0 k1 k2 k3 n k5 hm hs
      obtain ⟨h1, h⟩ := He.ba h
      obtain ⟨h2, h⟩ := He.ba h
      obtain ⟨h3, h⟩ := He.ba h
      obtain ⟨h4, h⟩ := He.ba h
      obtain ⟨h5, h6⟩ := He.ba h
      cases of_decide_eq_true h1
      cases of_decide_eq_true h2
      cases of_decide_eq_true h3
      obtain ⟨nm, bs, mr, ns, qn, hd, sn, sub, ab, col, de⟩ := cd
      dsimp only at hm h4 h5
      subst hm
      cases h4
      have h5 : de = false := by cases de <;> first | rfl | cases h5
      subst h5
      obtain ⟨sl⟩ := sl
      have hs : sl = [k0, k1, k2, k3, some (.builtin "ValueError.__new__"), k5] := hs
      subst hs
      exact ⟨nm, qn, ns, bs, bm, sn, sub, ab, col, dd, k0, k1, k2, k3, k5, hl, h6⟩
    · cases h
  · cases h
/-- the class x is an error class with an __init__ of its own, which keeps the field f -/
structure Xc (K : PySem.W.Frag) (x f : Str) : Prop where
  oex : OexC K (He.ga K x)
  xf : XfC K (He.ga K x)
  no : PySem.W.findIn K (.ref (He.ga K x)) f = some none
  ini : PySem.W.findIn K (.ref (He.ga K x)) "__init__" = some (some (.ref (He.ma K (He.ga K x) "__init__")))
  fn : PySem.W.typeIn K (.ref (He.ma K (He.ga K x) "__init__")) = some (.type "function")
theorem oexB_ok {K : PySem.W.Frag} {x f : Str} (h : oexB K x f = true) : Xc K x f := by
  obtain ⟨h1, h⟩ := He.ba h
  obtain ⟨h2, h⟩ := He.ba h
  obtain ⟨h3, h⟩ := He.ba h
  obtain ⟨h4, h⟩ := He.ba h
  obtain ⟨h5, h⟩ := He.ba h
  obtain ⟨h6, h⟩ := He.ba h
  obtain ⟨h7, h⟩ := He.ba h
  obtain ⟨h8, h9⟩ := He.ba h
  exact ⟨⟨oexS_ok h1, He.eqO_ok h2, of_decide_eq_true h3, of_decide_eq_true h4, h5⟩, xfB_ok h6, He.eqO_ok h7, He.eqO_ok h8, of_decide_eq_true h9⟩
section
variable {X : Cx} {x f : Str} {e : Expr} {es : List Expr} {ta : TA} {p1 p2 p pos : Pos}
/-- PastError.__init__(self, ..) -/
theorem pe_pinit {pl : Sem Bool} (hm : X.mg x = some (.ref (He.ga X.K x))) (pn : pinB X.K x = true) (ha : PA X (e :: es) ta) (hg : Gl X x := by rfl) (hdb : (x == ("__debug__" : Str)) = false := by decide)
    (hc : eval (.Call (.Attribute (.Name x p1) "__init__" p2) (e :: es) [] pos) X.env = (do
      let ov ← eval (.Name x p1) X.env
      standAt p2.atName
      let (f, first) ← holding [ov] (getMethod ov "__init__" pl)
      callWith pos f first (backTo pos (starEach (e :: es) X.env)) (backToKw pos (keywordEach [] X.env))) := by rfl)
    (he : starEach (e :: es) X.env = (false, eval e X.env) :: starEach es X.env := by rfl) (hpl : (backTo pos (starEach es X.env)).any (·.1) = false := by rfl) :
    PE X (.Call (.Attribute (.Name x p1) "__init__" p2) (e :: es) [] pos) (tVeI X.K ta) := by
  obtain ⟨h1, pn⟩ := He.ba pn
  obtain ⟨h2, h3⟩ := He.ba pn
  have h3 : PySem.W.findCls X.K (.ref (He.ga X.K x)) (.type "type") "__init__" = some (.val (.builtin "ValueError.__init__")) := by
    split at h3
    · rename_i i hi
      cases of_decide_eq_true h3
      exact hi
    · cases h3
  refine ⟨?_⟩
  intro pins s σ H Q I h
  refine PySem.W.methodCall_KW ?_ hc
  refine ld_glob I hg hm ?_ hdb
  refine PySem.W.method_cls I.kIn (of_decide_eq_true h2) ?_
  refine PySem.W.cls_value I.kIn h1 h3 (by decide +kernel) ?_
  refine PyProof.Rows.callWith_method1 (id := "ValueError.__init__") (thn (ha.run pos pins _ σ H _ (I.tok _) h) ?_) he hpl
  rintro us s1 ⟨vs, H1, I1, r1, a, C, ws, rfl, hl, T, ea, q⟩
  obtain ⟨u0, ur, rfl, ra, rw'⟩ : ∃ u0 ur, us = u0 :: ur ∧ RelV (.ref a) u0 ∧ Vals ws ur := by
    cases r1 with | cons z1 z2 => exact ⟨_, _, rfl, z1, z2⟩
  cases (ra : u0 = Value.ref a)
  refine oinit_ok T I1 ea ?_ fun s2 J => ⟨.non, H1, J, rfl, q⟩
  rw [sizeLine_eq, ← Paired.length rw']
  omega
end
/-- what such an __init__ does -/
def spXi (K : PySem.W.Frag) (x f : Str) : Sp := fun vs H Q _ => ∃ (a : Addr) (v : V), vs = [.ref a, v] ∧ H a = some (exo a (He.ga K x) none) ∧ ∀ dx, H dx = none → dx ≠ a → Q .non (upd (upd H dx (exd dx [(f, v)])) a (exo a (He.ga K x) (some dx)))
/-- the error class x, its __init__ known -/
structure Xi (P : Program) (w : World) (K : PySem.W.Frag) (mg : Str → Option Value) (base : Heap) (k : Nat) (x f : Str) : Prop where
  c : Xc K x f
  g : mg x = some (.ref (He.ga K x))
  ex : ∃ (fd : FuncData) (ps : List Str), FnOk P w K mg base CX0 k (He.ma K (He.ga K x) "__init__") fd ps (spXi K x f) ∧ Binds K fd ps []
section
variable {P : Program} {w : World} {K : PySem.W.Frag} {mg : Str → Option Value} {base : Heap} {x f q : Str} {st : Stmt} {N ps : List Str} {k : Nat}
theorem xi_of (F : ∃ fd, FunD K "__init__" q (defArgs st) (defBody st) (defScope st) [] [] (He.fAd K (x, some "__init__")) fd) (g : mg x = some (.ref (He.ga K x))) (o : oexB K x f = true) (S : FnScope N ps (defScope st)) (hb : BindsH "__init__" q st ps) (two : ps.length = 2)
    (hbody : BodyH P w K mg base q st N k (He.fAd K (x, some "__init__")) (spXi K x f)) : Xi P w K mg base (k + 1) x f := by
  obtain ⟨fd, F⟩ := F
  refine ⟨oexB_ok o, g, fd, ps, fn_d F S ?_ hbody, F.bindsN hb⟩
  rintro vs H Q E ⟨a, v, rfl, _⟩
  exact two.symm
end
/-- what such an __init__ keeps, where an error was just laid -/
theorem xi_made {K : PySem.W.Frag} {x f : Str} {H : Hp} {a : Addr} {v : V} {Q : VK} {E : XK} (g : ∀ d, H d = none → d ≠ a → Q .non (upd (upd H d (exd d [(f, v)])) a (exo a (He.ga K x) (some d)))) : spXi K x f [.ref a, v] (upd H a (exo a (He.ga K x) none)) Q E := by
  refine ⟨a, v, rfl, upd_same, ?_⟩
  intro d hd hne
  have hd2 : H d = none := by rwa [upd_ne hne] at hd
  have e : upd (upd (upd H a (exo a (He.ga K x) none)) d (exd d [(f, v)])) a (exo a (He.ga K x) (some d)) = upd (upd H d (exd d [(f, v)])) a (exo a (He.ga K x) (some d)) := by
    funext b
    by_cases hb : b = a
    · rw [hb, upd_same, upd_same]
    · rw [upd_ne hb, upd_ne hb]
      by_cases hc : b = d
      · rw [hc, upd_same, upd_same]
      · rw [upd_ne hc, upd_ne hc, upd_ne hb]
  rw [e]
  exact g d hd2 hne
/-! ### such an error, raised -/
section
variable {X : Cx} {k j : Nat} {x f : Str} {e : Expr} {te : TE} {p pos : Pos}
/-- raise x(e) -/
theorem pmk_x (c : Xi X.prog X.w X.K X.mg X.base k x f) (hr : Room j X.A) (he : PE X e te) (hs : starEach [e] X.env = (false, eval e X.env) :: starEach [] X.env := by rfl) (hpl : (backTo pos (starEach [] X.env)).any (·.1) = false := by rfl) (hk : k + 1 ≤ j := by decide) (hg : Gl X x := by rfl)
    (hdb : (x == ("__debug__" : Str)) = false := by decide) : PMk X (.Call (.Name x p) [e] [] pos) (tMkO (He.ga X.K x) (spXi X.K x f) [] (tCons te tNil)) := by
  obtain ⟨fd, ps, F, b⟩ := c.ex
  exact pmk_oex (CX := CX0) (p := p) (pos := pos) c.c.oex c.c.ini c.c.fn F (hr.mono hk) b .nil L2.pass0 hg c.g (pa_cons he pa_nil hs) hdb hs hpl
/-- raise x() -/
theorem ps_raise0 {W : WX} {rp : Pos} (K : PySem.W.Frag) (hK : X.K = K) {bmB : List Value} {B newId initId : String} (F : ExcBaseFacts B newId initId bmB) (c : PySem.W.excIn X.K (He.ga X.K x) bmB newId = true ∧ PySem.W.keepIn X.K (.ref (He.ga X.K x)) = true ∧ PySem.W.subIn X.K (.ref (He.ga X.K x)) (.type "BaseException") = some true ∧ PySem.W.typeIn X.K (.ref (He.ga X.K x)) = some (.type "type"))
    (g : X.mg x = some (.ref (He.ga X.K x))) (hc : X.calm = true) (tk : Takes X W) (hg : Gl X x := by rfl) (hdb : (x == ("__debug__" : Str)) = false := by decide) : PS X (.Raise (some (.Call (.Name x p) [] [] pos)) none rp) (fun _ σ H => W (.ref (He.ga K x)) none σ H) := by
  subst hK
  exact ps_raise hc tk (pmk_own0 F c.1 g c.2.1 (raises_own c.2.2.1 c.2.2.2) hg hdb)
/-- .. what is to be shown then -/
theorem xi_raised {K : PySem.W.Frag} {x f : Str} {H : Hp} {v : V} {Q : XK} (g : ∀ d, H d = none → Q (.ref (He.ga K x)) (some d) (upd H d (.xd [(f, v)]))) : [v].length ≤ 1000 ∧ ∀ a, H a = none → spXi K x f (.ref a :: ([v] ++ [])) (upd H a (exo a (He.ga K x) none))
    (fun u H2 => u = .non ∧ ∃ (d : Addr) (fs : List (Str × V)), H2 a = some (exo a (He.ga K x) (some d)) ∧ H2 d = some (exd d fs) ∧ H d = none ∧ Q (.ref (He.ga K x)) (some d) (upd (del H2 a) d (.xd fs))) (fun _ _ _ => False) := by
  refine ⟨by show 1 ≤ 1000; decide, ?_⟩
  intro a ha
  refine xi_made ?_
  intro d hd hne
  refine ⟨rfl, d, [(f, v)], upd_same, ?_, hd, ?_⟩
  · rw [upd_ne hne, upd_same]
  · have e : upd (del (upd (upd H d (exd d [(f, v)])) a (exo a (He.ga K x) (some d))) a) d (.xd [(f, v)]) = upd H d (.xd [(f, v)]) := by
      funext b
      by_cases hb : b = d
      · rw [hb, upd_same, upd_same]
      · rw [upd_ne hb, upd_ne hb]
        by_cases hc : b = a
        · rw [hc, del_same, ha]
        · rw [del_ne hc, upd_ne hc, upd_ne hb]
    rw [e]
    exact g d hd
/-- a reading may be weakened behind the expression -/
def tUp (te : TE) : TE := fun σ H Q => ∃ R : VK, te σ H R ∧ ∀ v H1, R v H1 → Q v H1
theorem pe_up (he : PE X e te) : PE X e (tUp te) := by
  refine ⟨?_⟩
  rintro pins s σ H Q I ⟨R, h, i⟩
  refine wpAny_mono (he.run pins s σ H R I h) ?_ (fun _ _ z => z)
  rintro u s1 ⟨v, H1, J, r, z⟩
  exact ⟨v, H1, J, r, i v H1 z⟩
theorem ps_raiseX {W : WX} {rp : Pos} (K : PySem.W.Frag) (hK : X.K = K) (c : Xi X.prog X.w X.K X.mg X.base k x f) (hc : X.calm = true) (tk : Takes X W) (hr : Room j X.A) (he : PE X e te) (hs : starEach [e] X.env = (false, eval e X.env) :: starEach [] X.env := by rfl) (hpl : (backTo pos (starEach [] X.env)).any (·.1) = false := by rfl) (hk : k + 1 ≤ j := by decide)
    (hg : Gl X x := by rfl) (hdb : (x == ("__debug__" : Str)) = false := by decide) : PS X (.Raise (some (.Call (.Name x p) [e] [] pos)) none rp) (fun _ σ H => te σ H fun v H1 => ∀ d, H1 d = none → W (.ref (He.ga K x)) (some d) σ (upd H1 d (.xd [(f, v)]))) := by
  subst hK
  have r := ps_raise (pos := rp) hc tk (pmk_x (p := p) (pos := pos) c hr (pe_up he) hs hpl hk hg hdb)
  refine ⟨?_⟩
  intro pins s σ H D I h
  refine r.run pins s σ H D I ⟨_, h, ?_⟩
  intro v H1 z
  exact xi_raised (Q := fun cls d H' => W cls d σ H') z
/-- x(e), as a value -/
theorem pe_x (c : Xi X.prog X.w X.K X.mg X.base k x f) (hr : Room j X.A) (he : PE X e te) (hs : starEach [e] X.env = (false, eval e X.env) :: starEach [] X.env := by rfl) (hpl : (backTo pos (starEach [] X.env)).any (·.1) = false := by rfl) (hk : k + 1 ≤ j := by decide) (hg : Gl X x := by rfl)
    (hdb : (x == ("__debug__" : Str)) = false := by decide) :
    PE X (.Call (.Name x p) [e] [] pos) (fun σ H Q => te σ H fun v H1 => ∀ a d, H1 a = none → H1 d = none → d ≠ a → Q (.ref a) (upd (upd H1 d (exd d [(f, v)])) a (exo a (He.ga X.K x) (some d)))) := by
  obtain ⟨fd, ps, F, bd⟩ := c.ex
  obtain ⟨nm, q, N, bs, bm, sn, sub, ab, col, dd, k0, k1, k2, k3, k5, hC, hbm⟩ := c.c.oex.cls
  refine ⟨?_⟩
  intro pins s σ H Q I h
  refine wpAny_Call_Name_kw (ld_glob I hg c.g ?_ hdb)
  refine PySem.W.callWith_K (h₀ := X.base) I.ok.mod.kin c.c.oex.kC ?_ hs hpl
  rw [hs]
  refine Calls.spliced_cons (thn (he.run pins s σ H _ I h) ?_)
  rintro u s1 ⟨v, H1, I1, r1, q1⟩
  refine Calls.spliced_nil ⟨I1.kIn, ?_⟩
  show wpAny _ _ (call (.ref (He.ga X.K x)) [u]) _ _ _
  obtain ⟨hp, g, dr, tk, os⟩ := s1
  let h2 := (hp.push (PySem.W.kdv_tup [u])).push (PySem.HandSPX.excO (He.ga X.K x) hp.objs.size)
  have le : hp.objs.size ≤ hp.objs.size + 1 := Nat.le_succ _
  have kk : ∀ b o, hp.get? b = some o → h2.get? b = some o := by
    intro b o e
    exact Heap.get?_push_of_some _ (Heap.get?_push_of_some _ e)
  have hget : h2.get? (hp.objs.size + 1) = some (PySem.HandSPX.excO (He.ga X.K x) hp.objs.size) := by
    show ((hp.push (PySem.W.kdv_tup [u])).push (PySem.HandSPX.excO (He.ga X.K x) hp.objs.size)).get? (hp.objs.size + 1) = _
    heap_get
  have I2 : Inv X pins σ (upd H1 (hp.objs.size + 1) (exo (hp.objs.size + 1) (He.ga X.K x) none)) ⟨h2, g, dr, tk, os⟩ := I1.laid (t' := tk) kk le (exo_ok hget)
  have rv : Vals [V.ref (hp.objs.size + 1), v] [Value.ref (hp.objs.size + 1), u] := .cons rfl (.cons r1 .nil)
  have want : spXi X.K x f [V.ref (hp.objs.size + 1), v] (upd H1 (hp.objs.size + 1) (exo (hp.objs.size + 1) (He.ga X.K x) none)) (fun z H2 => z = .non ∧ Q (.ref (hp.objs.size + 1)) H2) (fun _ _ _ => False) :=
    xi_made fun d hd hne => ⟨rfl, q1 _ d (I1.hok.fresh le) hd hne⟩
  have two : [Value.ref (hp.objs.size + 1), u].length = ps.length := by
    rw [← rv.length]
    exact F.len _ _ _ _ want
  have b2 := bd ⟨h2, g, dr, tk, os⟩ [Value.ref (hp.objs.size + 1), u] I2.kIn (by rw [List.append_nil]; exact two)
  rw [List.append_nil] at b2
  refine wpAny_call (PySem.HandSPX.call_own PySem.F.excBase_ValueError (fun Y => PySem.HandSPX.refsVE_contains Y bm hbm) (I1.kIn _ _ hC) (PySem.W.looks_findIn I1.kIn c.c.ini) (fun self => PySem.W.bind_fn I1.kIn self c.c.fn) (by rw [sizeLine_eq]; show 1 ≤ 16777216; decide) ?_)
  refine codeAny_mono (F.run _ X.stack _ _ ⟨[Value.ref (hp.objs.size + 1), u], []⟩ _ _ _ (fun _ _ _ => False) ((hr.mono hk).make (He.ga X.K x) [u] []) (I2.env0.make (He.ga X.K x) [u] []) b2 rv want) ?_
  intro r s3 z
  cases r with
  | error er => exact z.elim
  | ok fl =>
    cases fl with
    | ret y =>
      obtain ⟨v4, H4, J, r4, e4, q4⟩ := I2.after z
      subst e4
      cases (r4 : y = Value.none)
      exact ⟨rfl, .ref (hp.objs.size + 1), H4, J, rfl, q4⟩
    | next => exact z.elim
    | brk => exact z.elim
    | cont => exact z.elim
end

end M

set_option Elab.async false
set_option linter.all false
set_option maxRecDepth 100000
set_option maxHeartbeats 2000000
namespace M
open PySem PySem.Spec PyProof.Rows L2

/-! ### what the law draws -/
def PoolAt (H : Hp) (a : Addr) : Prop := ∃ g s n : Int, H a = some (.lst [.int g, .int s, .int n]) ∧ 0 ≤ g ∧ (0 ≤ s ∧ s < 1099511627776) ∧ 0 ≤ n
section
variable {P : Program} {w : World} {K : PySem.W.Frag} {mg : Str → Option Value} {base : Heap}
def spPool (K : PySem.W.Frag) : Sp := fun vs H Q _ => ∃ (a : Addr) (ns : List Int) (k : Int), vs = [.ref a, .int k] ∧ SqL K H a (ns.map .int) ∧ ns.length ≤ 63 ∧ (0 ≤ k ∧ k ≤ 63) ∧ ∀ (p : Addr) (H' : Hp), Same H H' → H p = none → PoolAt H' p → Q (.ref p) H'
theorem ca_l_pool (T : Txt w K mg) : Ca P w K mg base 1 "_law_pool" (spPool K) := by
  refine ca_of (N := ["_law_script", "_law_k", "_law_cell", "_law_seed"]) (ps := ["_law_script", "_law_k"]) T.f_l_pool T.g_law_pool ⟨rfl, rfl, rfl, by decide +kernel, rfl, by decide +kernel, by decide +kernel⟩ (fun _ _ _ _ _ _ us hl => match us, hl with | [_, _], _ => rfl)
    (fun vs H Q E h => by obtain ⟨a, ns, k, rfl, ha, hl, hk, q⟩ := h; rfl) (fun cdv A outer s H vs Q E hr h => ?_)
  have nd : (["_law_script", "_law_k", "_law_cell", "_law_seed"] : List Str).Nodup := by decide +kernel
  obtain ⟨a, ns, k, rfl, ha, hl, hk, q⟩ := h
  refine ⟨_, (pss_cons (ps_if (pt_cmpR op_eq (pe_callB call_len_seq (by rfl) T.b_len PySem.boot_len (pa_cons (pv 0) pa_nil)) pe_int (nomark _)) (pss_one (ps_ret (pe_lst (pa_cons pe_int (pa_cons (pe_op op_add pe_int (pe_op op_mul pe_int (pv 1))) (pa_cons pe_int pa_nil)))))) pss_nil)
      (pss_cons (ps_set (i := 2) nd rfl (.inl rfl) (pe_callB call_abs (by rfl) T.b_abs boot_abs (pa_cons (pe_ix ix_list (pv 0) (pe_op op_mod (pv 1) (pe_callB call_len_seq (by rfl) T.b_len PySem.boot_len (pa_cons (pv 0) pa_nil))) (fun _ _ => rfl)) pa_nil)))
      (pss_cons (ps_set (i := 3) nd rfl (.inl rfl) (pe_op op_add (pe_op op_add (pe_op op_mod (pe_callTy call_int1 (by rfl) T.b_int boot_int (pa_cons (pv 2) pa_nil)) pe_int) (pe_op op_mul pe_int (pv 1))) (pe_callTy call_int1 (by rfl) T.b_int boot_int (pa_cons (pe_cmpR op_lt (pe_ix ix_list (pv 0) (pe_op op_mod (pv 1) (pe_callB call_len_seq (by rfl) T.b_len PySem.boot_len (pa_cons (pv 0) pa_nil))) (fun _ _ => rfl)) pe_int (nomark _)) pa_nil))))
      (pss_cons (ps_if (PW.pt (pw_and (pt_cmpR op_lt (pv 1) (pe_callB call_len_seq (by rfl) T.b_len PySem.boot_len (pa_cons (pv 0) pa_nil)) (nomark _)) (pw_and1 (pt_cmpR op_ge (pv 2) (pe_op op_pow pe_int pe_int) (nomark _))))) (pss_one (ps_ret (pe_lst (pa_cons (pv 2) (pa_cons (pv 3) (pa_cons pe_int pa_nil)))))) pss_nil)
      (pss_one (ps_ret (pe_lst (pa_cons pe_int (pa_cons (pv 3) (pa_cons pe_int pa_nil)))))))))), ?_⟩
  refine ⟨_, rfl, _, _, rfl, .inl ha, rfl, _, rfl, ?_⟩
  by_cases c : ns.length = 0
  · rw [decide_eq_true (show V.int ((ns.map V.int).length : Nat) = V.int 0 from by rw [List.length_map, c]; rfl)]
    refine iteT ⟨_, rfl, _, _, rfl, rfl, .inl (by decide), _, _, rfl, rfl, (by show 3 ≤ sizeLine; decide), fun p np => ?_⟩
    exact q p _ (same_new np) np ⟨_, _, _, upd_same, by decide, by omega, by decide⟩
  · rw [decide_eq_false (show ¬ V.int ((ns.map V.int).length : Nat) = V.int 0 from fun z => c (by have := V.int.inj z; rw [List.length_map] at this; omega))]
    refine iteF ?_
    have hm0 := Int.emod_nonneg k (show ((ns.map V.int).length : Int) ≠ 0 by rw [List.length_map]; omega)
    have hm1 := Int.emod_lt_of_pos k (show (0 : Int) < ((ns.map V.int).length : Nat) by rw [List.length_map]; omega)
    have hat := atK (l := ns) hm0 hm1 (by rw [List.length_map])
    generalize ns.getD (k % ((ns.map V.int).length : Nat)).toNat 0 = x at hat
    have pos : (fun (_ j : Int) => 0 < j) k ((ns.map V.int).length : Nat) := by show (0 : Int) < ((ns.map V.int).length : Nat); rw [List.length_map]; omega
    refine ⟨_, rfl, _, rfl, _, rfl, _, _, rfl, .inl ha, _, _, rfl, rfl, pos, _, _, _, _, rfl, rfl, ha, hat, _, rfl, ?_⟩
    have hx : 0 ≤ (if x < 0 then -x else x) := by split <;> omega
    generalize (if x < 0 then -x else x) = z at hx
    refine ⟨_, rfl, .inl ⟨_, rfl, _, _, rfl, rfl, (by show (0 : Int) < 2147483629; decide), _, rfl, _, _, rfl, rfl, .inl (by decide), _, _, rfl, rfl, ?_⟩⟩
    refine ⟨_, rfl, _, rfl, _, rfl, _, _, rfl, .inl ha, _, _, rfl, rfl, pos, _, _, _, _, rfl, rfl, ha, hat, _, _, rfl, rfl, .inr ⟨_, rfl, _, _, rfl, rfl, ?_⟩⟩
    have s0 : 0 ≤ (if decide (x < 0) = true then (1 : Int) else 0) ∧ (if decide (x < 0) = true then (1 : Int) else 0) ≤ 1 := by split <;> omega
    have z0 := Int.emod_nonneg z (show (2147483629 : Int) ≠ 0 by decide)
    have z1 := Int.emod_lt_of_pos z (show (0 : Int) < 2147483629 by decide)
    have sb : 0 ≤ z % 2147483629 + 1009 * k + (if decide (x < 0) = true then (1 : Int) else 0) ∧ z % 2147483629 + 1009 * k + (if decide (x < 0) = true then (1 : Int) else 0) < 1099511627776 := by omega
    refine ⟨_, rfl, _, rfl, _, _, rfl, .inl ha, _, _, rfl, rfl, _, rfl, ?_⟩
    have no : ∀ p, H p = none → Q (.ref p) (upd H p (.lst [.int 0, .int (z % 2147483629 + 1009 * k + (if decide (x < 0) = true then (1 : Int) else 0)), .int 0])) := fun p np => q p _ (same_new np) np ⟨_, _, _, upd_same, by decide, sb, by decide⟩
    by_cases c1 : k < ((ns.map V.int).length : Nat)
    · rw [decide_eq_true c1]
      refine iteT ⟨_, rfl, _, _, rfl, rfl, ⟨by decide, by decide, by decide⟩, _, _, rfl, rfl, _, rfl, ?_⟩
      by_cases c2 : (10 ^ (18 : Int).toNat : Int) ≤ z
      · rw [decide_eq_true c2]
        refine iteT ⟨_, rfl, _, rfl, (by show 3 ≤ sizeLine; decide), fun p np => ?_⟩
        exact q p _ (same_new np) np ⟨_, _, _, upd_same, hx, sb, by decide⟩
      · rw [decide_eq_false c2]
        exact iteF ⟨_, rfl, (by show 3 ≤ sizeLine; decide), no⟩
    · rw [decide_eq_false c1]
      exact iteF ⟨_, rfl, (by show 3 ≤ sizeLine; decide), no⟩
def spDraw : Sp := fun vs H Q _ => ∃ (a : Addr) (m : Int), vs = [.ref a, .int m] ∧ PoolAt H a ∧ (1 ≤ m ∧ m ≤ 100000) ∧ ∀ (i : Int) (H' : Hp), But a H H' → PoolAt H' a → (0 ≤ i ∧ i < m) → Q (.int i) H'
theorem ca_l_draw (T : Txt w K mg) : Ca P w K mg base 1 "_law_draw" (spDraw) := by
  refine ca_of (N := ["_law_pool_here", "_law_many", "_law_digit", "_law_number"]) (ps := ["_law_pool_here", "_law_many"]) T.f_l_draw T.g_law_draw ⟨rfl, rfl, rfl, by decide +kernel, rfl, by decide +kernel, by decide +kernel⟩ (fun _ _ _ _ _ _ us hl => match us, hl with | [_, _], _ => rfl)
    (fun vs H Q E h => by obtain ⟨a, m, rfl, ⟨g, sd, n, hp, hg, hs, hn⟩, hm, q⟩ := h; rfl) (fun cdv A outer s H vs Q E hr h => ?_)
  have nd : (["_law_pool_here", "_law_many", "_law_digit", "_law_number"] : List Str).Nodup := by decide +kernel
  obtain ⟨a, m, rfl, ⟨g, sd, n, hp, hg, hs, hn⟩, hm, q⟩ := h
  refine ⟨_, (pss_cons (ps_if (pt_cmpR op_gt (pe_ix ix_list (pv 0) pe_int (fun _ _ => rfl)) pe_int (nomark _)) (pss_cons (ps_set (i := 2) nd rfl (.inl rfl) (pe_op op_mod (pe_callTy call_int1 (by rfl) T.b_int boot_int (pa_cons (pe_ix ix_list (pv 0) pe_int (fun _ _ => rfl)) pa_nil)) (pv 1)))
      (pss_cons (ps_asg (pe_op op_fdiv (pe_ix ix_list (pv 0) pe_int (fun _ _ => rfl)) (pv 1)) (pg_sub (pv 0) pe_int set_list))
      (pss_one (ps_ret (pv 2))))) pss_nil)
      (pss_cons (ps_asg (pe_op op_add (pe_ix ix_list (pv 0) pe_int (fun _ _ => rfl)) pe_int) (pg_sub (pv 0) pe_int set_list))
      (pss_cons (ps_set (i := 3) nd rfl (.inl rfl) (pe_op op_mod (pe_callTy call_int1 (by rfl) T.b_int boot_int (pa_cons (pe_op op_mul (pe_op op_add (pe_ix ix_list (pv 0) pe_int (fun _ _ => rfl)) pe_int) (pe_op op_add (pe_op op_mul pe_int (pe_ix ix_list (pv 0) pe_int (fun _ _ => rfl))) pe_int)) pa_nil)) pe_int))
      (pss_cons (ps_set (i := 3) nd rfl (.inl rfl) (pe_op op_mod (pe_callTy call_int1 (by rfl) T.b_int boot_int (pa_cons (pe_op op_mul (pv 3) (pe_op op_add (pe_op op_fdiv (pv 3) pe_int) pe_int)) pa_nil)) pe_int))
      (pss_cons (ps_set (i := 3) nd rfl (.inl rfl) (pe_op op_mod (pe_callTy call_int1 (by rfl) T.b_int boot_int (pa_cons (pe_op op_mul (pv 3) (pe_op op_add (pe_op op_fdiv (pv 3) pe_int) pe_int)) pa_nil)) pe_int))
      (pss_one (ps_ret (pe_op op_mod (pe_callTy call_int1 (by rfl) T.b_int boot_int (pa_cons (pe_op op_fdiv (pv 3) pe_int) pa_nil)) (pv 1))))))))), ?_⟩
  have hsq : SqL K H a [.int g, .int sd, .int n] := .of hp
  refine ⟨_, rfl, _, _, _, _, rfl, rfl, hsq, at0, _, _, rfl, rfl, _, rfl, ?_⟩
  by_cases c : (0 : Int) < g
  · rw [decide_eq_true c]
    refine iteT ?_
    refine ⟨_, rfl, _, _, _, _, rfl, rfl, hsq, at0, .inl ⟨_, rfl, _, rfl, _, _, rfl, rfl, (by show (0 : Int) < m; omega), ?_⟩⟩
    refine ⟨_, rfl, _, _, _, _, rfl, rfl, hsq, at0, _, rfl, _, _, rfl, rfl, ⟨(by show (0 : Int) < m; omega), (by show m < 1073741824; omega)⟩, ?_⟩
    refine ⟨_, rfl, a, _, _, 0, rfl, rfl, hp, rfl, ?_⟩
    refine ⟨_, rfl, q _ _ But.upd ⟨g / m, sd, n, upd_same, Int.ediv_nonneg (by omega) (by omega), hs, hn⟩ ⟨Int.emod_nonneg _ (by omega), Int.emod_lt_of_pos _ (by omega)⟩⟩
  · rw [decide_eq_false c]
    refine iteF ?_
    refine ⟨_, rfl, _, _, _, _, rfl, rfl, hsq, at2, _, _, rfl, rfl, _, rfl, a, _, _, 2, rfl, rfl, hp, rfl, ?_⟩
    have hp2 : upd H a (.lst (([.int g, .int sd, .int n] : List V).set 2 (.int (n + 1)))) a = some (.lst [.int g, .int sd, .int (n + 1)]) := upd_same
    have b2 : But a H (upd H a (.lst (([.int g, .int sd, .int n] : List V).set 2 (.int (n + 1))))) := But.upd
    have hsq2 : SqL K _ a [.int g, .int sd, .int (n + 1)] := .of hp2
    have md : ∀ (u : Int), (fun (_ j : Int) => 0 < j) u m := fun u => by show (0 : Int) < m; omega
    refine ⟨_, rfl, _, _, _, _, rfl, rfl, hsq2, at1, _, _, rfl, rfl, _, rfl, _, _, _, _, rfl, rfl, hsq2, at2, _, _, rfl, rfl, .inl (by decide), _, _, rfl, rfl, _, _, rfl, rfl, .inl ?_, .inl ⟨_, rfl, _, _, rfl, rfl, (by show (0 : Int) < 2147483647; decide), ?_⟩⟩
    · show -(2 ^ 64) < sd + 1 ∧ sd + 1 < 2 ^ 64
      omega
    have mb : ∀ u : Int, -(2 ^ 64) < u % 2147483647 ∧ u % 2147483647 < 2 ^ 64 := fun u => by
      have h0 := Int.emod_nonneg u (show (2147483647 : Int) ≠ 0 by decide)
      have h1 := Int.emod_lt_of_pos u (show (0 : Int) < 2147483647 by decide)
      omega
    refine ⟨_, rfl, _, rfl, _, _, rfl, rfl, ⟨(by show (0 : Int) < 1009; decide), (by show (1009 : Int) < 1073741824; decide)⟩, _, _, rfl, rfl, _, _, rfl, rfl, .inl (by constructor <;> omega), .inl ⟨_, rfl, _, _, rfl, rfl, (by show (0 : Int) < 2147483647; decide), ?_⟩⟩
    refine ⟨_, rfl, _, rfl, _, _, rfl, rfl, ⟨(by show (0 : Int) < 2003; decide), (by show (2003 : Int) < 1073741824; decide)⟩, _, _, rfl, rfl, _, _, rfl, rfl, .inl (by constructor <;> omega), .inl ⟨_, rfl, _, _, rfl, rfl, (by show (0 : Int) < 2147483399; decide), ?_⟩⟩
    refine ⟨_, rfl, _, _, rfl, rfl, ⟨(by show (0 : Int) < 16; decide), (by show (16 : Int) < 1073741824; decide)⟩, .inl ⟨_, rfl, _, rfl, _, _, rfl, rfl, (by show (0 : Int) < m; omega), ?_⟩⟩
    exact q _ _ b2 ⟨g, sd, n + 1, hp2, hg, hs, by omega⟩ ⟨Int.emod_nonneg _ (by omega), Int.emod_lt_of_pos _ (by omega)⟩
end

end M

set_option Elab.async false
set_option linter.all false
set_option maxRecDepth 100000
set_option maxHeartbeats 2000000
namespace M
open PySem PySem.Spec PyProof.Rows L2

theorem let5 {i : Int} (h : 0 ≤ i ∧ i < 5) : ∃ c, atI ("abcdx" : Str).cps.toList i = some c ∧ (⟨#[c]⟩ : Str) ∈ regs5 := by
  have : i = 0 ∨ i = 1 ∨ i = 2 ∨ i = 3 ∨ i = 4 := by omega
  rcases this with rfl | rfl | rfl | rfl | rfl
  · exact ⟨97, by decide +kernel, by decide +kernel⟩
  · exact ⟨98, by decide +kernel, by decide +kernel⟩
  · exact ⟨99, by decide +kernel, by decide +kernel⟩
  · exact ⟨100, by decide +kernel, by decide +kernel⟩
  · exact ⟨120, by decide +kernel, by decide +kernel⟩
theorem let4 {i : Int} (h : 0 ≤ i ∧ i < 4) : ∃ c, atI ("abcd" : Str).cps.toList i = some c ∧ (⟨#[c]⟩ : Str) ∈ regs4 := by
  have : i = 0 ∨ i = 1 ∨ i = 2 ∨ i = 3 := by omega
  rcases this with rfl | rfl | rfl | rfl
  · exact ⟨97, by decide +kernel, by decide +kernel⟩
  · exact ⟨98, by decide +kernel, by decide +kernel⟩
  · exact ⟨99, by decide +kernel, by decide +kernel⟩
  · exact ⟨100, by decide +kernel, by decide +kernel⟩
theorem sgn5 {i : Int} (h : 0 ≤ i ∧ i < 5) : ∃ c, atI ("+-*=<" : Str).cps.toList i = some c ∧ (⟨#[c]⟩ : Str) ∈ signs := by
  have : i = 0 ∨ i = 1 ∨ i = 2 ∨ i = 3 ∨ i = 4 := by omega
  rcases this with rfl | rfl | rfl | rfl | rfl
  · exact ⟨43, by decide +kernel, by decide +kernel⟩
  · exact ⟨45, by decide +kernel, by decide +kernel⟩
  · exact ⟨42, by decide +kernel, by decide +kernel⟩
  · exact ⟨61, by decide +kernel, by decide +kernel⟩
  · exact ⟨60, by decide +kernel, by decide +kernel⟩
theorem PoolAt.ch {H : Hp} {a : Addr} (h : PoolAt H a) : Ch H a := by
  obtain ⟨_, _, _, h, _⟩ := h
  exact .lst h
theorem PoolAt.same {H H' : Hp} {a : Addr} (s : Same H H') (h : PoolAt H a) : PoolAt H' a := by
  obtain ⟨_, _, _, h, r⟩ := h
  exact ⟨_, _, _, s _ _ h, r⟩
theorem PoolAt.at {H : Hp} {a : Addr} (h : PoolAt H a) : ∃ l, H a = some (.lst l) := by
  obtain ⟨_, _, _, h, _⟩ := h
  exact ⟨_, h⟩
section
variable {P : Program} {w : World} {K : PySem.W.Frag} {mg : Str → Option Value} {base : Heap}
def spLE (K : PySem.W.Frag) (n : Nat) : Sp := fun vs H Q _ => ∃ (a : Addr) (k : Nat), vs = [.ref a, .int (k : Int)] ∧ PoolAt H a ∧ k < n ∧ ∀ (v : V) (e : Exp) (H' : Hp), But a H H' → PoolAt H' a → e.ok → e.dep ≤ k → Dp K H' v e.d → Q v H'
theorem ca_l_e : ∀ (n : Nat) (T : Txt w K mg), Ca P w K mg base (n + 2) "_law_e" (spLE K n)
  | 0, T => by
    refine ca_of (N := ["_law_pool_here", "_law_depth", "_law_kind", "_law_sign", "_law_left"]) (ps := ["_law_pool_here", "_law_depth"]) T.f_l_e T.g_law_e ⟨rfl, rfl, rfl, by decide +kernel, rfl, by decide +kernel, by decide +kernel⟩ (fun _ _ _ _ _ _ us hl => match us, hl with | [_, _], _ => rfl)
      (fun vs H Q E h => by obtain ⟨a, k, rfl, hp, hk, q⟩ := h; rfl) (fun cdv A outer s H vs Q E hr h => ?_)
    have nd : (["_law_pool_here", "_law_depth", "_law_kind", "_law_sign", "_law_left"] : List Str).Nodup := by decide +kernel
    obtain ⟨a, k, rfl, hp, hk, q⟩ := h
    omega
  | n + 1, T => by
    refine ca_of (N := ["_law_pool_here", "_law_depth", "_law_kind", "_law_sign", "_law_left"]) (ps := ["_law_pool_here", "_law_depth"]) T.f_l_e T.g_law_e ⟨rfl, rfl, rfl, by decide +kernel, rfl, by decide +kernel, by decide +kernel⟩ (fun _ _ _ _ _ _ us hl => match us, hl with | [_, _], _ => rfl)
      (fun vs H Q E h => by obtain ⟨a, k, rfl, hp, hk, q⟩ := h; rfl) (fun cdv A outer s H vs Q E hr h => ?_)
    have nd : (["_law_pool_here", "_law_depth", "_law_kind", "_law_sign", "_law_left"] : List Str).Nodup := by decide +kernel
    obtain ⟨a, k, rfl, hp, hk, q⟩ := h
    refine ⟨_, (pss_cons (ps_set (i := 2) nd rfl (.inl rfl) (pe_ca (ca_l_draw T) hr (pa_cons (pv 0) (pa_cons pe_int pa_nil)) (by omega)))
      (pss_cons (ps_if (PW.pt (pw_or (pt_cmpR op_eq (pv 2) pe_int (nomark _)) (pw_or1 (PW.pt (pw_and (pt_cmpR op_eq (pv 2) pe_int (nomark _)) (pw_and1 (pt_cmpR op_eq (pv 1) pe_int (nomark _)))))))) (pss_one (ps_ret (pe_ca (ca_l_draw T) hr (pa_cons (pv 0) (pa_cons pe_int pa_nil)) (by omega)))) pss_nil)
      (pss_cons (ps_if (pt_cmpR op_lt (pv 2) pe_int (nomark _)) (pss_one (ps_ret (pe_ix ix_str pe_str (pe_ca (ca_l_draw T) hr (pa_cons (pv 0) (pa_cons pe_int pa_nil)) (by omega)) (fun _ _ => rfl)))) pss_nil)
      (pss_cons (ps_set (i := 3) nd rfl (.inl rfl) (pe_ix ix_str pe_str (pe_ca (ca_l_draw T) hr (pa_cons (pv 0) (pa_cons pe_int pa_nil)) (by omega)) (fun _ _ => rfl)))
      (pss_cons (ps_set (i := 4) nd rfl (.inl rfl) (pe_ca (ca_l_e n T) hr (pa_cons (pv 0) (pa_cons (pe_op op_sub (pv 1) pe_int) pa_nil)) (by omega)))
      (pss_one (ps_ret (pe_tup (pa_cons (pv 3) (pa_cons (pv 4) (pa_cons (pe_ca (ca_l_e n T) hr (pa_cons (pv 0) (pa_cons (pe_op op_sub (pv 1) pe_int) pa_nil)) (by omega)) pa_nil))))))))))), ?_⟩
    refine ⟨_, rfl, a, 4, rfl, hp, by omega, fun i H1 b1 p1 hi => ?_⟩
    have num : ∀ (j : Int) (H2 : Hp), But a H1 H2 → PoolAt H2 a → (0 ≤ j ∧ j < 10) → Q (.int j) H2 := fun j H2 b2 p2 hj => q _ (.num j) H2 (b1.trans b2) p2 (by show 0 ≤ j ∧ j ≤ 9; omega) (Nat.zero_le _) (.int j)
    refine ⟨_, rfl, rfl, _, rfl, ?_⟩
    by_cases c0 : i = 0
    · rw [decide_eq_true (show V.int i = V.int 0 from congrArg V.int c0)]
      exact iteT ⟨_, rfl, a, 10, rfl, p1, by omega, num⟩
    · rw [decide_eq_false (show ¬ V.int i = V.int 0 from fun z => c0 (V.int.inj z))]
      refine iteF ⟨_, rfl, rfl, _, rfl, ?_⟩
      by_cases c3 : i = 3
      · rw [decide_eq_true (show V.int i = V.int 3 from congrArg V.int c3)]
        refine iteT ⟨_, rfl, rfl, _, rfl, ?_⟩
        by_cases ck : k = 0
        · rw [decide_eq_true (show V.int (k : Int) = V.int 0 from by rw [ck]; rfl)]
          exact iteT ⟨_, rfl, a, 10, rfl, p1, by omega, num⟩
        · rw [decide_eq_false (show ¬ V.int (k : Int) = V.int 0 from fun z => ck (by have := V.int.inj z; omega))]
          refine iteF ⟨_, rfl, _, _, rfl, rfl, _, rfl, ?_⟩
          rw [decide_eq_false (show ¬ i < 3 by omega)]
          refine iteF ⟨_, rfl, a, 5, rfl, p1, by omega, fun j H2 b2 p2 hj => ?_⟩
          obtain ⟨cd, hcd, hsg⟩ := sgn5 hj
          refine ⟨_, j, cd, rfl, rfl, (by decide +kernel), hcd, ?_⟩
          have ek : ((k : Nat) : Int) - 1 = ((k - 1 : Nat) : Int) := by omega
          refine ⟨_, rfl, _, rfl, _, _, rfl, rfl, a, k - 1, by rw [← ek]; rfl, p2, by omega, fun v1 e1 H3 b3 p3 o1 d1 y1 => ?_⟩
          refine ⟨_, rfl, _, rfl, _, rfl, _, rfl, _, _, rfl, rfl, a, k - 1, by rw [← ek]; rfl, p3, by omega, fun v2 e2 H4 b4 p4 o2 d2 y2 => ?_⟩
          refine ⟨(by show 3 ≤ sizeLine; decide), fun t nt => ?_⟩
          have s5 : Same H4 (upd H4 t (.tup [.str ⟨#[cd]⟩, v1, v2])) := same_new nt
          refine q _ (.op ⟨#[cd]⟩ e1 e2) _ ((((b1.trans b2).trans b3).trans b4).trans (same_but s5)) (p4.same s5) ⟨hsg, o1, o2⟩ ?_ (.tup (.of upd_same) (.cons (.str _) (.cons (dp_same s5 (dp_but p3.ch b4 y1 e1.noL)) (.cons (dp_same s5 y2) .nil))))
          show Nat.max e1.dep e2.dep + 1 ≤ k
          have := Nat.max_le.mpr ⟨d1, d2⟩
          have : Nat.max e1.dep e2.dep ≤ k - 1 := this
          omega
      · rw [decide_eq_false (show ¬ V.int i = V.int 3 from fun z => c3 (V.int.inj z))]
        refine iteF ⟨_, rfl, _, _, rfl, rfl, _, rfl, ?_⟩
        rw [decide_eq_true (show i < 3 by omega)]
        refine iteT ⟨_, rfl, a, 5, rfl, p1, by omega, fun j H2 b2 p2 hj => ?_⟩
        obtain ⟨cd, hcd, hsg⟩ := let5 hj
        exact ⟨_, j, cd, rfl, rfl, (by decide +kernel), hcd, q _ (.reg ⟨#[cd]⟩) H2 (b1.trans b2) p2 hsg (Nat.zero_le _) (.str _)⟩
end

end M

set_option Elab.async false
set_option linter.all false
set_option maxRecDepth 100000
set_option maxHeartbeats 2000000
namespace M
open PySem PySem.Spec PyProof.Rows L2

/-- the tuple (tuple, list) of types -/
abbrev two_ty : List V := [.ty "tuple", .ty "list"]
theorem of_ty {K : PySem.W.Frag} {H : Hp} {v : V} {k : Kd} (h : Of K H v k) (hk : k ≠ .obj) : TyX K H v (.type k.name) := by
  cases h with
  | non => exact .base .non
  | bl b => exact .base (.bl b)
  | int b => exact .base (.int b)
  | str b => exact .base (.str b)
  | list b => exact ty_sqL b
  | tuple b => exact ty_sqT b
  | dict b => exact b
  | obj b _ => exact absurd rfl hk
def rIs2 (K : PySem.W.Frag) : List V → Hp → VK → Prop := fun xs H Q => ∃ (v : V) (k : Kd) (tp : Addr), xs = [v, .ref tp] ∧ H tp = some (.tup two_ty) ∧ Of K H v k ∧ k ≠ .obj ∧ Q (.bl (k.is .tuple || k.is .list)) H
theorem call_is2 {X : Cx} : CallR X (.builtin "isinstance") (rIs2 X.K) := callR_imp call_isiT fun vs H Q ⟨v, k, tp, e, ht, h, hk, q⟩ => by
  subst e
  refine ⟨v, tp, two_ty, .type k.name, [.type "tuple", .type "list"], _, rfl, ht, .cons (.ty _) (.cons (.ty _) .nil), of_ty h hk, ?_, q⟩
  have h1 := kd_kit (K := X.K) k .tuple hk (by decide)
  have h2 := kd_kit (K := X.K) k .list hk (by decide)
  exact kitAny_cons h1 (fun e => kitAny_cons h2 (fun e2 => by rw [kitAny_nil, e, e2]; rfl) (fun e2 => by rw [e2, Bool.or_true])) (fun e => by rw [e, Bool.true_or])
theorem kdOf_obj (d : PyData) : kdOf d ≠ .obj := by
  cases d <;> simp [kdOf]
mutual
def dpt : PyData → Nat
  | .tuple ds => dpts ds + 1
  | .list ds => dpts ds + 1
  | _ => 0
def dpts : List PyData → Nat
  | [] => 0
  | d :: r => Nat.max (dpt d) (dpts r)
end
mutual
/-- no sequence in it is longer than this -/
def nar : PyData → Prop
  | .tuple ds => ds.length ≤ 100000 ∧ nars ds
  | .list ds => ds.length ≤ 100000 ∧ nars ds
  | _ => True
def nars : List PyData → Prop
  | [] => True
  | d :: r => nar d ∧ nars r
end
theorem nars_at : ∀ {ds : List PyData} {i : Nat} {d : PyData}, nars ds → ds[i]? = some d → nar d
  | [], i, d, _, h => by simp at h
  | e :: r, 0, d, n, h => by
    cases (Option.some.inj h)
    exact n.1
  | e :: r, i + 1, d, n, h => nars_at (ds := r) (i := i) n.2 h
theorem dpts_at : ∀ {ds : List PyData} {i : Nat} {d : PyData}, ds[i]? = some d → dpt d ≤ dpts ds
  | [], i, d, h => by simp at h
  | e :: r, 0, d, h => by
    cases (Option.some.inj h)
    exact Nat.le_max_left _ _
  | e :: r, i + 1, d, h => Nat.le_trans (dpts_at (ds := r) (i := i) h) (Nat.le_max_right _ _)
section
variable {P : Program} {w : World} {K : PySem.W.Frag} {mg : Str → Option Value} {base : Heap}
def spLSame (K : PySem.W.Frag) (n : Nat) : Sp := fun vs H Q _ => ∃ (x y : V) (d : PyData), vs = [x, y] ∧ Dp K H x d ∧ Dp K H y d ∧ dpt d < n ∧ nar d ∧ ∀ H', Same H H' → Q (.bl true) H'
theorem ca_l_same : ∀ (n : Nat) (T : Txt w K mg), Ca P w K mg base (n + 1) "_law_same" (spLSame K n)
  | 0, T => by
    refine ca_of (N := ["_law_one", "_law_two", "_law_k"]) (ps := ["_law_one", "_law_two"]) T.f_l_same T.g_law_same ⟨rfl, rfl, rfl, by decide +kernel, rfl, by decide +kernel, by decide +kernel⟩ (fun _ _ _ _ _ _ us hl => match us, hl with | [_, _], _ => rfl)
      (fun vs H Q E h => by obtain ⟨x, y, d, rfl, hx, hy, hd, hnr, q⟩ := h; rfl) (fun cdv A outer s H vs Q E hr h => ?_)
    have nd : (["_law_one", "_law_two", "_law_k"] : List Str).Nodup := by decide +kernel
    obtain ⟨x, y, d, rfl, hx, hy, hd, hnr, q⟩ := h
    omega
  | n + 1, T => by
    refine ca_of (N := ["_law_one", "_law_two", "_law_k"]) (ps := ["_law_one", "_law_two"]) T.f_l_same T.g_law_same ⟨rfl, rfl, rfl, by decide +kernel, rfl, by decide +kernel, by decide +kernel⟩ (fun _ _ _ _ _ _ us hl => match us, hl with | [_, _], _ => rfl)
      (fun vs H Q E h => by obtain ⟨x, y, d, rfl, hx, hy, hd, hnr, q⟩ := h; rfl) (fun cdv A outer s H vs Q E hr h => ?_)
    have nd : (["_law_one", "_law_two", "_law_k"] : List Str).Nodup := by decide +kernel
    obtain ⟨x, y, d, rfl, hx, hy, hd, hnr, q⟩ := h
    refine ⟨_, (pss_cons (ps_if (pt_val (pe_callB call_is2 (by rfl) T.b_isinstance boot_isinstance (pa_cons (pv 0) (pa_cons (pe_tup (pa_cons (pe_ty T.b_tuple boot_tuple) (pa_cons (pe_ty T.b_list boot_list) pa_nil))) pa_nil)))) (pss_cons (ps_if (PW.pt (pw_or (pt_not (pt_val (pe_callB call_is2 (by rfl) T.b_isinstance boot_isinstance (pa_cons (pv 1) (pa_cons (pe_tup (pa_cons (pe_ty T.b_tuple boot_tuple) (pa_cons (pe_ty T.b_list boot_list) pa_nil))) pa_nil))))) (pw_or1 (pt_cmpR op_ne (pe_is .list T.b_isinstance (pv 0) T.b_list boot_list) (pe_is .list T.b_isinstance (pv 1) T.b_list boot_list) (nomark _))))) (pss_one (ps_ret pe_bl)) pss_nil)
      (pss_cons (ps_if (pt_cmpR op_ne (pe_callB call_len_seq (by rfl) T.b_len PySem.boot_len (pa_cons (pv 0) pa_nil)) (pe_callB call_len_seq (by rfl) T.b_len PySem.boot_len (pa_cons (pv 1) pa_nil)) (nomark _)) (pss_one (ps_ret pe_bl)) pss_nil)
      (pss_cons (ps_for PassesOwn.never rfl (pi_range1 rfl T.b_range (pa_cons (pe_callB call_len_seq (by rfl) T.b_len PySem.boot_len (pa_cons (pv 0) pa_nil)) pa_nil)) (pg_name (i := 2) nd rfl (.inl rfl)) (pss_one (ps_if (pt_not (pt_val (pe_ca (ca_l_same n T) hr (pa_cons (pe_ix ix_seq (pv 0) (pv 2) (fun _ _ => rfl)) (pa_cons (pe_ix ix_seq (pv 1) (pv 2) (fun _ _ => rfl)) pa_nil)) (by omega)))) (pss_one (ps_ret pe_bl)) pss_nil)))
      (pss_one (ps_ret pe_bl))))) pss_nil)
      (pss_cons (ps_if (PW.pt (pw_or (pt_val (pe_is .bool T.b_isinstance (pv 0) T.b_bool boot_bool)) (pw_or1 (pt_val (pe_is .bool T.b_isinstance (pv 1) T.b_bool boot_bool))))) (pss_one (ps_ret (pe_and (pe_is .bool T.b_isinstance (pv 0) T.b_bool boot_bool) (pe_and (pe_is .bool T.b_isinstance (pv 1) T.b_bool boot_bool) (pe_one (pe_cmpR op_eq (pv 0) (pv 1) (nomark _))))))) pss_nil)
      (pss_cons (ps_if (pt_val (pe_is .int T.b_isinstance (pv 0) T.b_int boot_int)) (pss_one (ps_ret (pe_and (pe_is .int T.b_isinstance (pv 1) T.b_int boot_int) (pe_one (pe_cmpR op_eq (pv 0) (pv 1) (nomark _)))))) pss_nil)
      (pss_cons (ps_if (pt_val (pe_is .str T.b_isinstance (pv 0) T.b_str boot_str)) (pss_one (ps_ret (pe_and (pe_is .str T.b_isinstance (pv 1) T.b_str boot_str) (pe_one (pe_cmpR op_eq (pv 0) (pv 1) (nomark _)))))) pss_nil)
      (pss_one (ps_ret (pe_and (pe_cmp (pc_isN (pv 0)) rfl) (pe_one (pe_cmp (pc_isN (pv 1)) rfl))))))))), ?_⟩
    refine ⟨_, rfl, (by show 2 ≤ sizeLine; decide), fun tp ntp => ⟨_, kdOf d, tp, rfl, upd_same, dp_kd (dp_same (same_new ntp) hx), kdOf_obj d, _, rfl, ?_⟩⟩
    have s1 : Same H (upd H tp (.tup two_ty)) := same_new ntp
    have hx1 := dp_same s1 hx
    have hy1 := dp_same s1 hy
    have q1 : ∀ H', Same (upd H tp (.tup two_ty)) H' → Q (.bl true) H' := fun H' s => q H' (s1.trans s)
    generalize upd H tp (.tup [V.ty "tuple", V.ty "list"]) = H1 at hx1 hy1 q1 ⊢
    have kx := dp_kd hx1
    have ky := dp_kd hy1
    by_cases hseq : kdOf d = .list ∨ kdOf d = .tuple
    · have e1 : ((kdOf d).is .tuple || (kdOf d).is .list) = true := by rcases hseq with h | h <;> rw [h] <;> rfl
      obtain ⟨a, b, xs, ys, ds, rfl, rfl, sa, sb, dx, dy, hn, hl5, hns⟩ : ∃ (a b : Addr) (xs ys : List V) (ds : List PyData), x = .ref a ∧ y = .ref b ∧ (SqL K H1 a xs ∨ SqT K H1 a xs) ∧ (SqL K H1 b ys ∨ SqT K H1 b ys) ∧ DpAll K H1 xs ds ∧ DpAll K H1 ys ds ∧ dpts ds < n ∧ ds.length ≤ 100000 ∧ nars ds := by
        cases hx1 with
        | lst h1 h2 => cases hy1 with | lst h3 h4 => exact ⟨_, _, _, _, _, rfl, rfl, .inl h1, .inl h3, h2, h4, Nat.lt_of_succ_lt_succ hd, hnr⟩
        | tup h1 h2 => cases hy1 with | tup h3 h4 => exact ⟨_, _, _, _, _, rfl, rfl, .inr h1, .inr h3, h2, h4, Nat.lt_of_succ_lt_succ hd, hnr⟩
        | _ => rcases hseq with h | h <;> cases h
      have lxy : xs.length = ys.length := (dps_len dx).trans (dps_len dy).symm
      rw [e1]
      refine iteT ⟨_, rfl, (by show 2 ≤ sizeLine; decide), fun tp2 ntp2 => ⟨_, kdOf d, tp2, rfl, upd_same, dp_kd (dp_same (same_new ntp2) hy1), kdOf_obj d, _, rfl, ?_⟩⟩
      rw [e1]
      have s2 : Same H1 (upd H1 tp2 (.tup two_ty)) := same_new ntp2
      have kx2 := dp_kd (dp_same s2 hx1)
      have ky2 := dp_kd (dp_same s2 hy1)
      have sa2 := sa.imp s2.seq (same_t s2)
      have sb2 := sb.imp s2.seq (same_t s2)
      have dx2 := dps_same s2 dx
      have dy2 := dps_same s2 dy
      have q2 : ∀ H', Same (upd H1 tp2 (.tup two_ty)) H' → Q (.bl true) H' := fun H' s => q1 H' (s2.trans s)
      generalize upd H1 tp2 (.tup [V.ty "tuple", V.ty "list"]) = H2 at kx2 ky2 sa2 sb2 dx2 dy2 q2 ⊢
      refine iteF ⟨_, rfl, _, _, rfl, kx2, _, rfl, _, _, rfl, ky2, rfl, _, rfl, ?_⟩
      rw [decide_eq_true rfl]
      refine iteF ⟨_, rfl, _, _, rfl, sa2, _, rfl, _, _, rfl, sb2, rfl, _, rfl, ?_⟩
      rw [decide_eq_true (show V.int (xs.length : Nat) = V.int (ys.length : Nat) from by rw [lxy])]
      refine iteF ⟨_, rfl, _, _, rfl, sa2, _, rfl, ?_⟩
      have lx := dps_len dx
      refine ⟨by omega, by omega, for_it (n := xs.length) walk_range (fun i σ' H' => ∃ z, σ' = [some (.ref a), some (.ref b), z] ∧ Same H2 H') ⟨none, rfl, Same.refl _⟩ (fun _ _ _ _ _ => trivial) ?_ ?_⟩
      · rintro i z σ' H0 H' hi ⟨_, rfl, s3⟩ ⟨rfl, rfl⟩
        have hid : i < ds.length := by omega
        obtain ⟨u, hu, du⟩ := dps_at dx2 (List.getElem?_eq_getElem hid)
        obtain ⟨v, hv, dv⟩ := dps_at dy2 (List.getElem?_eq_getElem hid)
        have ei : (0 : Int) + (i : Nat) = ((i : Nat) : Int) := by omega
        have rx : ∀ G : VK, G u H' → rIx K (.ref a) (.int (0 + (i : Nat))) H' G := fun G g => sa2.elim (fun h => .inl ⟨a, xs, _, u, rfl, rfl, s3.seq h, by rw [ei]; exact atI_nat hu, g⟩) (fun h => .inr (.inl ⟨a, xs, _, u, rfl, rfl, same_t s3 h, by rw [ei]; exact atI_nat hu, g⟩))
        have ry : ∀ G : VK, G v H' → rIx K (.ref b) (.int (0 + (i : Nat))) H' G := fun G g => sb2.elim (fun h => .inl ⟨b, ys, _, v, rfl, rfl, s3.seq h, by rw [ei]; exact atI_nat hv, g⟩) (fun h => .inr (.inl ⟨b, ys, _, v, rfl, rfl, same_t s3 h, by rw [ei]; exact atI_nat hv, g⟩))
        refine ⟨_, rfl, _, rfl, rx _ ⟨_, rfl, _, rfl, ry _ ?_⟩⟩
        refine ⟨u, v, ds[i], rfl, dp_same s3 du, dp_same s3 dv, Nat.lt_of_le_of_lt (dpts_at (List.getElem?_eq_getElem hid)) hn, nars_at hns (List.getElem?_eq_getElem hid), fun H4 s4 => ⟨_, rfl, iteF ⟨_, rfl, s3.trans s4⟩⟩⟩
      · rintro σ' H' ⟨_, rfl, s3⟩
        exact q2 _ s3
    · have e1 : ((kdOf d).is .tuple || (kdOf d).is .list) = false := by
        cases e : kdOf d <;> simp_all [Kd.is]
      rw [e1]
      refine iteF ?_
      cases hx1 with
      | non =>
        cases hy1
        exact ⟨_, rfl, _, _, rfl, kx, _, rfl, iteF ⟨_, rfl, _, _, rfl, ky, _, rfl, iteF ⟨_, rfl, _, _, rfl, kx, _, rfl, iteF ⟨_, rfl, _, _, rfl, kx, _, rfl, iteF ⟨_, rfl, _, rfl, iteT ⟨_, rfl, q1 _ (Same.refl _)⟩⟩⟩⟩⟩⟩
      | bl b =>
        cases hy1
        refine ⟨_, rfl, _, _, rfl, kx, _, rfl, iteT ⟨_, rfl, _, _, rfl, kx, _, rfl, iteT ⟨_, rfl, _, _, rfl, ky, _, rfl, iteT ⟨_, rfl, _, rfl, rfl, ?_⟩⟩⟩⟩
        rw [decide_eq_true rfl]
        exact q1 _ (Same.refl _)
      | int i =>
        cases hy1
        refine ⟨_, rfl, _, _, rfl, kx, _, rfl, iteF ⟨_, rfl, _, _, rfl, ky, _, rfl, iteF ⟨_, rfl, _, _, rfl, kx, _, rfl, iteT ⟨_, rfl, _, _, rfl, ky, _, rfl, iteT ⟨_, rfl, _, rfl, rfl, ?_⟩⟩⟩⟩⟩
        rw [decide_eq_true rfl]
        exact q1 _ (Same.refl _)
      | str i =>
        cases hy1
        refine ⟨_, rfl, _, _, rfl, kx, _, rfl, iteF ⟨_, rfl, _, _, rfl, ky, _, rfl, iteF ⟨_, rfl, _, _, rfl, kx, _, rfl, iteF ⟨_, rfl, _, _, rfl, kx, _, rfl, iteT ⟨_, rfl, _, _, rfl, ky, _, rfl, iteT ⟨_, rfl, _, rfl, rfl, ?_⟩⟩⟩⟩⟩⟩
        rw [decide_eq_true rfl]
        exact q1 _ (Same.refl _)
      | lst h1 h2 => exact absurd (.inl rfl) hseq
      | tup h1 h2 => exact absurd (.inr rfl) hseq
end

end M

set_option Elab.async false
set_option linter.all false
set_option maxRecDepth 100000
set_option maxHeartbeats 2000000
namespace M
open PySem PySem.Spec PyProof.Rows L2

/-! ### what rows may come to, all in all -/
mutual
/-- steps at most -/
def mxR : Row → Nat
  | .read .. => 1
  | .set .. => 1
  | .swap .. => 1
  | .iff _ a b => mxs a + mxs b
  | .times _ a => 9 * mxs a
  | _ => 0
def mxs : List Row → Nat
  | [] => 0
  | r :: rs => mxR r + mxs rs
end
mutual
theorem cc_loop {c : Int} : ∀ {r : Row} {deep loops : Nat}, r.ok c deep loops → 0 < loops → r.cc = 0
  | .read .., _, _, _, _ => rfl
  | .set .., _, _, _, _ => rfl
  | .swap .., _, _, _, _ => rfl
  | .keep .., _, _, _, _ => rfl
  | .ans .., _, _, _, _ => rfl
  | .coin .., _, _, h, l => by have := h.2; omega
  | .iff e a b, _, _, h, l => by
    show rowsCc a + rowsCc b = 0
    rw [ccs_loop h.2.1 l, ccs_loop h.2.2 l]
  | .times e a, _, loops, h, l => ccs_loop (rs := a) h.2.2 (Nat.succ_pos loops)
theorem ccs_loop {c : Int} : ∀ {rs : List Row} {deep loops : Nat}, rowsOk c deep loops rs → 0 < loops → rowsCc rs = 0
  | [], _, _, _, _ => rfl
  | r :: rs, _, _, h, l => by
    show r.cc + rowsCc rs = 0
    rw [cc_loop h.2.1 l, ccs_loop h.2.2 l]
end

theorem PoolAt.but {H H' : Hp} {a D : Addr} (ne : a ≠ D) (b : But D H H') (h : PoolAt H a) : PoolAt H' a := by
  obtain ⟨_, _, _, h, r⟩ := h
  exact ⟨_, _, _, b _ _ ne h, r⟩
theorem rows_noL' {rs : List Row} : ∀ d ∈ rs.map Row.d, NoL d := fun d hd => by
  obtain ⟨r, _, rfl⟩ := List.mem_map.mp hd
  exact r.noL

end M

set_option Elab.async false
set_option linter.all false
set_option maxRecDepth 100000
set_option maxHeartbeats 2000000
namespace M
open PySem PySem.Spec PyProof.Rows L2

/-! ### what the law draws: cells, rows -/
/-- all but what stands at p and at b is as it was -/
def But2 (p b : Addr) (H H' : Hp) : Prop := ∀ a o, a ≠ p → a ≠ b → H a = some o → H' a = some o
theorem But2.refl (p b : Addr) (H : Hp) : But2 p b H H := fun _ _ _ _ e => e
theorem But2.trans {p b : Addr} {H1 H2 H3 : Hp} (s : But2 p b H1 H2) (t : But2 p b H2 H3) : But2 p b H1 H3 := fun a o h1 h2 e => t a o h1 h2 (s a o h1 h2 e)
theorem But2.l {p b : Addr} {H H' : Hp} (s : But p H H') : But2 p b H H' := fun a o h _ e => s a o h e
theorem But2.r {p b : Addr} {H H' : Hp} (s : But b H H') : But2 p b H H' := fun a o _ h e => s a o h e
theorem But2.same {p b : Addr} {H H' : Hp} (s : Same H H') : But2 p b H H' := fun a o _ _ e => s a o e
theorem sqT_b2 {K : PySem.W.Frag} {p b : Addr} {H H' : Hp} (c1 : Ch H p) (c2 : Ch H b) (s : But2 p b H H') {a : Addr} {xs : List V} (h : SqT K H a xs) : SqT K H' a xs := by
  rcases h with (h | ⟨o, h⟩) | h
  · exact .inl (.inl (s _ _ (fun e => c1.1 _ (e ▸ h)) (fun e => c2.1 _ (e ▸ h)) h))
  · exact .inl (.inr ⟨o, s _ _ (fun e => c1.2 _ _ (e ▸ h)) (fun e => c2.2 _ _ (e ▸ h)) h⟩)
  · exact .inr h
section
variable {K : PySem.W.Frag} {H H' : Hp} {p b : Addr}
mutual
theorem dp_b2 (c1 : Ch H p) (c2 : Ch H b) (s : But2 p b H H') : ∀ {v : V} {d : PyData}, Dp K H v d → NoL d → Dp K H' v d
  | _, _, .non, _ => .non
  | _, _, .bl b, _ => .bl b
  | _, _, .int i, _ => .int i
  | _, _, .str x, _ => .str x
  | _, _, .lst _ _, n => nomatch n
  | _, _, .tup h r, n => .tup (sqT_b2 c1 c2 s h) (dps_b2 c1 c2 s r (by cases n with | tup h => exact h))
theorem dps_b2 (c1 : Ch H p) (c2 : Ch H b) (s : But2 p b H H') : ∀ {vs : List V} {ds : List PyData}, DpAll K H vs ds → (∀ d ∈ ds, NoL d) → DpAll K H' vs ds
  | _, _, .nil, _ => .nil
  | _, _, .cons h r, n => .cons (dp_b2 c1 c2 s h (n _ List.mem_cons_self)) (dps_b2 c1 c2 s r fun d hd => n d (List.mem_cons_of_mem _ hd))
end
end
/-- rows at most, steps at most, of rows that are drawn -/
def cR : Nat → Nat
  | 0 => 1
  | n + 1 => 1 + 2 * (3 * cR n)
def mR : Nat → Nat
  | 0 => 1
  | n + 1 => 1 + 9 * (3 * mR n)
theorem cR_pos : ∀ n, 1 ≤ cR n
  | 0 => Nat.le_refl 1
  | n + 1 => Nat.le_add_right ..
theorem mR_pos : ∀ n, 1 ≤ mR n
  | 0 => Nat.le_refl 1
  | n + 1 => Nat.le_add_right ..
theorem cl_app : ∀ (as bs : List Row), rowsCl (as ++ bs) = rowsCl as + rowsCl bs
  | [], bs => (Nat.zero_add _).symm
  | a :: as, bs => by
    show a.cl + rowsCl (as ++ bs) = a.cl + rowsCl as + rowsCl bs
    rw [cl_app as bs, Nat.add_assoc]
theorem cc_app : ∀ (as bs : List Row), rowsCc (as ++ bs) = rowsCc as + rowsCc bs
  | [], bs => (Nat.zero_add _).symm
  | a :: as, bs => by
    show a.cc + rowsCc (as ++ bs) = a.cc + rowsCc as + rowsCc bs
    rw [cc_app as bs, Nat.add_assoc]
theorem mx_app : ∀ (as bs : List Row), mxs (as ++ bs) = mxs as + mxs bs
  | [], bs => (Nat.zero_add _).symm
  | a :: as, bs => by
    show mxR a + mxs (as ++ bs) = mxR a + mxs as + mxs bs
    rw [mx_app as bs, Nat.add_assoc]
theorem ok_app {c : Int} {deep loops : Nat} : ∀ {as bs : List Row}, rowsOk c deep loops as → rowsOk c deep loops bs → rowsOk c deep loops (as ++ bs)
  | [], bs, _, h => h
  | a :: as, bs, h, k => ⟨h.1, h.2.1, ok_app h.2.2 k⟩
theorem in_x : ("x" : Str) ∈ regs5 := by decide +kernel
theorem let26 {i : Int} (h : 0 ≤ i ∧ i < 26) : atI ("abcdefghijklmnopqrstuvwxyz" : Str).cps.toList i = some (97 + i.toNat) := by
  obtain ⟨k, rfl⟩ : ∃ k : _root_.Fin 26, i = ((k.val : Nat) : Int) := ⟨⟨i.toNat, by omega⟩, by show i = ((i.toNat : Nat) : Int); omega⟩
  revert k
  decide +kernel
section
variable {P : Program} {w : World} {K : PySem.W.Frag} {mg : Str → Option Value} {base : Heap}
theorem cells_noL (cs : List (Int × Int)) : ∀ d ∈ cs.map cellD, NoL d := fun d h => by
  obtain ⟨c, _, rfl⟩ := List.mem_map.mp h
  exact cell_noL c
def spCellsL (K : PySem.W.Frag) : Sp := fun vs H Q _ => ∃ p : Addr, vs = [.ref p] ∧ PoolAt H p ∧ ∀ (l : Addr) (ys : List V) (cs : List (Int × Int)) (H' : Hp), But p H H' → PoolAt H' p → H l = none → l ≠ p → H' l = some (.lst ys) → DpAll K H' ys (cs.map cellD) → (1 ≤ cs.length ∧ cs.length ≤ 3) → (∀ c ∈ cs, CellOk c ∧ 2 ≤ c.1 ∧ c.1 ≤ 5) → Q (.ref l) H'
def BudAt (H : Hp) (b : Addr) (k : Int) : Prop := H b = some (.lst [.int k])
def spRowsD (K : PySem.W.Frag) (n : Nat) : Sp := fun vs H Q _ => ∃ (p b : Addr) (many : Int) (depth loops : Nat) (k : Int), vs = [.ref p, .int many, .int (depth : Int), .int (loops : Int), .ref b] ∧ PoolAt H p ∧ BudAt H b k ∧ 0 ≤ k ∧ p ≠ b ∧ depth < n ∧ (1 ≤ many ∧ many ≤ 6) ∧ depth + loops ≤ 2 ∧
  ∀ (v : V) (rs : List Row) (H' : Hp), But2 p b H H' → PoolAt H' p → BudAt H' b (k - rowsCc rs) → 0 ≤ k - rowsCc rs → Dp K H' v (.tuple (rowsD rs)) → (∀ deep, deep + depth ≤ 12 → rowsOk many deep loops rs) → rowsCl rs ≤ 3 * cR depth → mxs rs ≤ 3 * mR depth → Q v H'
theorem ca_l_rows1 {n : Nat} (R : Ca P w K mg base (n + 10) "_law_rows" (spRowsD K n)) (T : Txt w K mg) : Ca P w K mg base (n + 11) "_law_rows" (spRowsD K (n + 1)) := by
    refine ca_of (N := ["_law_pool_here", "_law_many", "_law_depth", "_law_loops", "_law_budget", "_law_rows_here", "_law_turn", "_law_kind", "_law_cell", "_law_reg", "_law_e_here", "_law_first", "_law_count"]) (ps := ["_law_pool_here", "_law_many", "_law_depth", "_law_loops", "_law_budget"]) T.f_l_rows T.g_law_rows ⟨rfl, rfl, rfl, by decide +kernel, rfl, by decide +kernel, by decide +kernel⟩ (fun _ _ _ _ _ _ us hl => match us, hl with | [_, _, _, _, _], _ => rfl)
      (fun vs H Q E h => by obtain ⟨p, b, many, depth, loops, k, rfl, hp, hb, hk, npb, hn, hmany, hdl, q⟩ := h; rfl) (fun cdv A outer s H vs Q E hr h => ?_)
    have nd : (["_law_pool_here", "_law_many", "_law_depth", "_law_loops", "_law_budget", "_law_rows_here", "_law_turn", "_law_kind", "_law_cell", "_law_reg", "_law_e_here", "_law_first", "_law_count"] : List Str).Nodup := by decide +kernel
    obtain ⟨p, b, many, depth, loops, k, rfl, hp, hb, hk, npb, hn, hmany, hdl, q⟩ := h
    refine ⟨_, (pss_cons (ps_set (i := 5) nd rfl (.inl rfl) (pe_lst pa_nil))
      (pss_cons (ps_for PassesOwn.never rfl (pi_range1 rfl T.b_range (pa_cons (pe_op op_add (pe_callTy call_int1 (by rfl) T.b_int boot_int (pa_cons (pe_cmpR op_eq (pv 2) pe_int (nomark _)) pa_nil)) (pe_ca (ca_l_draw T) hr (pa_cons (pv 0) (pa_cons pe_int pa_nil)) (by omega))) pa_nil)) (pg_name (i := 6) nd rfl (.inl rfl)) (pss_cons (ps_set (i := 7) nd rfl (.inl rfl) (pe_ca (ca_l_draw T) hr (pa_cons (pv 0) (pa_cons pe_int pa_nil)) (by omega)))
      (pss_cons (ps_set (i := 8) nd rfl (.inl rfl) (pe_ca (ca_l_draw T) hr (pa_cons (pv 0) (pa_cons (pv 1) pa_nil)) (by omega)))
      (pss_cons (ps_set (i := 9) nd rfl (.inl rfl) (pe_ix ix_str pe_str (pe_ca (ca_l_draw T) hr (pa_cons (pv 0) (pa_cons pe_int pa_nil)) (by omega)) (fun _ _ => rfl)))
      (pss_cons (ps_set (i := 10) nd rfl (.inl rfl) (pe_ca (ca_l_e 3 T) hr (pa_cons (pv 0) (pa_cons pe_int pa_nil)) (by omega)))
      (pss_one (ps_if (pt_cmpR op_lt (pv 7) pe_int (nomark _)) (pss_one (ps_expr (pe_bm PySem.F.plainAttrs_list PySem.F.slot_list_append PySem.F.type_list_append mt_append (pv 5) (pa_cons (pe_tup (pa_cons pe_str (pa_cons (pv 9) (pa_cons (pv 8) pa_nil)))) pa_nil)))) (pss_one (ps_if (pt_cmpR op_lt (pv 7) pe_int (nomark _)) (pss_one (ps_expr (pe_bm PySem.F.plainAttrs_list PySem.F.slot_list_append PySem.F.type_list_append mt_append (pv 5) (pa_cons (pe_tup (pa_cons pe_str (pa_cons (pv 8) (pa_cons (pv 10) pa_nil)))) pa_nil)))) (pss_one (ps_if (pt_cmpR op_eq (pv 7) pe_int (nomark _)) (pss_one (ps_expr (pe_bm PySem.F.plainAttrs_list PySem.F.slot_list_append PySem.F.type_list_append mt_append (pv 5) (pa_cons (pe_tup (pa_cons pe_str (pa_cons (pv 9) (pa_cons (pv 8) (pa_cons (pv 10) (pa_cons (pe_ca (ca_l_e 3 T) hr (pa_cons (pv 0) (pa_cons pe_int pa_nil)) (by omega)) pa_nil)))))) pa_nil)))) (pss_one (ps_if (pt_cmpR op_eq (pv 7) pe_int (nomark _)) (pss_one (ps_expr (pe_bm PySem.F.plainAttrs_list PySem.F.slot_list_append PySem.F.type_list_append mt_append (pv 5) (pa_cons (pe_tup (pa_cons pe_str (pa_cons (pv 10) pa_nil))) pa_nil)))) (pss_one (ps_if (PW.pt (pw_and (pt_cmpR op_eq (pv 7) pe_int (nomark _)) (pw_and1 (pt_cmpR op_gt (pv 2) pe_int (nomark _))))) (pss_cons (ps_set (i := 11) nd rfl (.inl rfl) (pe_ca R hr (pa_cons (pv 0) (pa_cons (pv 1) (pa_cons (pe_op op_sub (pv 2) pe_int) (pa_cons (pv 3) (pa_cons (pv 4) pa_nil))))) (by omega)))
      (pss_one (ps_expr (pe_bm PySem.F.plainAttrs_list PySem.F.slot_list_append PySem.F.type_list_append mt_append (pv 5) (pa_cons (pe_tup (pa_cons pe_str (pa_cons (pv 10) (pa_cons (pv 11) (pa_cons (pe_ca R hr (pa_cons (pv 0) (pa_cons (pv 1) (pa_cons (pe_op op_sub (pv 2) pe_int) (pa_cons (pv 3) (pa_cons (pv 4) pa_nil))))) (by omega)) pa_nil))))) pa_nil))))) (pss_one (ps_if (PW.pt (pw_and (pt_cmpR op_eq (pv 7) pe_int (nomark _)) (pw_and1 (pt_cmpR op_gt (pv 2) pe_int (nomark _))))) (pss_cons (ps_set (i := 12) nd rfl (.inl rfl) (pe_ca (ca_l_draw T) hr (pa_cons (pv 0) (pa_cons pe_int pa_nil)) (by omega)))
      (pss_cons (ps_if (pt_cmpR op_eq (pv 12) pe_int (nomark _)) (pss_one (ps_set (i := 12) nd rfl (.inl rfl) pe_str)) pss_nil)
      (pss_one (ps_expr (pe_bm PySem.F.plainAttrs_list PySem.F.slot_list_append PySem.F.type_list_append mt_append (pv 5) (pa_cons (pe_tup (pa_cons pe_str (pa_cons (pv 12) (pa_cons (pe_ca R hr (pa_cons (pv 0) (pa_cons (pv 1) (pa_cons (pe_op op_sub (pv 2) pe_int) (pa_cons (pe_op op_add (pv 3) pe_int) (pa_cons (pv 4) pa_nil))))) (by omega)) pa_nil)))) pa_nil)))))) (pss_one (ps_if (PW.pt (pw_and (pt_cmpR op_eq (pv 7) pe_int (nomark _)) (pw_and (pt_cmpR op_eq (pv 3) pe_int (nomark _)) (pw_and1 (pt_cmpR op_gt (pe_ix ix_list (pv 4) pe_int (fun _ _ => rfl)) pe_int (nomark _)))))) (pss_cons (ps_asg (pe_op op_sub (pe_ix ix_list (pv 4) pe_int (fun _ _ => rfl)) pe_int) (pg_sub (pv 4) pe_int set_list))
      (pss_one (ps_expr (pe_bm PySem.F.plainAttrs_list PySem.F.slot_list_append PySem.F.type_list_append mt_append (pv 5) (pa_cons (pe_tup (pa_cons pe_str (pa_cons (pv 9) pa_nil))) pa_nil))))) (pss_one (ps_expr (pe_bm PySem.F.plainAttrs_list PySem.F.slot_list_append PySem.F.type_list_append mt_append (pv 5) (pa_cons (pe_tup (pa_cons pe_str (pa_cons (pv 9) (pa_cons (pv 10) pa_nil)))) pa_nil)))))))))))))))))))))))
      (pss_one (ps_ret (pe_tupleOf (by rfl) T.b_tuple (pv 5)))))), ?_⟩
    refine ⟨(by show 0 ≤ sizeLine; exact Nat.zero_le _), fun l nl => ?_⟩
    have nlp : l ≠ p := fun e => by
      obtain ⟨_, _, _, h, _⟩ := hp
      rw [← e, nl] at h
      cases h
    have nlb : l ≠ b := fun e => by
      have h : H b = _ := hb
      rw [← e, nl] at h
      cases h
    have hp0 := hp.same (same_new (o := .lst []) nl)
    have hb0 : BudAt (upd H l (.lst [])) b k := same_new nl _ _ hb
    have hl0 : upd H l (.lst []) l = some (.lst []) := upd_same
    have s0 : Same H (upd H l (.lst [])) := same_new nl
    generalize upd H l (.lst []) = H0 at hp0 hb0 hl0 s0 ⊢
    have hu : ∀ u : Bool, 0 ≤ (if u = true then (1 : Int) else 0) ∧ (if u = true then (1 : Int) else 0) ≤ 1 := fun u => by cases u <;> decide
    refine ⟨_, rfl, rfl, .inr ⟨_, rfl, _, rfl, p, 3, rfl, hp0, by omega, fun m H1 b1 p1 hm => ⟨_, _, rfl, rfl, _, rfl, ?_⟩⟩⟩
    have hu := hu (decide (V.int (depth : Int) = V.int 2))
    have hu : 0 ≤ (if decide (V.int (depth : Int) = V.int 2) = true then (1 : Int) else 0) + m ∧ (if decide (V.int (depth : Int) = V.int 2) = true then (1 : Int) else 0) + m ≤ 3 := by omega
    generalize (if decide (V.int (depth : Int) = V.int 2) = true then (1 : Int) else 0) + m = cnt at hu ⊢
    refine ⟨by omega, by omega, for_it (n := cnt.toNat) walk_range (fun i σ' H' => ∃ (x6 x7 x8 x9 x10 x11 x12 : Option V) (ys : List V) (rs : List Row), σ' = [some (.ref p), some (.int many), some (.int (depth : Int)), some (.int (loops : Int)), some (.ref b), some (.ref l), x6, x7, x8, x9, x10, x11, x12] ∧ But2 p b H H' ∧ PoolAt H' p ∧ BudAt H' b (k - rowsCc rs) ∧ 0 ≤ k - rowsCc rs ∧ H' l = some (.lst ys) ∧ DpAll K H' ys (rs.map Row.d) ∧ (∀ deep, deep + depth ≤ 12 → rowsOk many deep loops rs) ∧ rowsCl rs ≤ i * cR depth ∧ mxs rs ≤ i * mR depth ∧ rs.length = i) ⟨none, none, none, none, none, none, none, [], [], rfl, (But2.same s0).trans (But2.l b1), p1, b1 _ _ (Ne.symm npb) (by show H0 b = some (.lst [.int (k - ((0 : Nat) : Int))]); rw [show k - ((0 : Nat) : Int) = k from by omega]; exact hb0), by show 0 ≤ k - ((0 : Nat) : Int); omega, b1 _ _ nlp hl0, .nil, fun _ _ => trivial, by show 0 ≤ _; exact Nat.zero_le _, by show 0 ≤ _; exact Nat.zero_le _, rfl⟩ (fun _ _ _ _ _ => trivial) ?_ ?_⟩
    · rintro i z σ' Hz H' hi ⟨_, _, _, _, _, x11, x12, ys, rs, rfl, bt, pt, bd, hk0, hl, hys, hok, hcl, hmx, hlen⟩ ⟨rfl, rfl⟩
      have lys : ys.length = i := by rw [dps_len hys, List.length_map, hlen]
      have lys1 : ys.length < sizeLine := by rw [sizeLine_eq]; omega
      have put : ∀ (H3 : Hp) (v : V) (r : Row), But2 p b H H3 → PoolAt H3 p → BudAt H3 b (k - rowsCc rs - r.cc) → 0 ≤ k - rowsCc rs - r.cc → H3 l = some (.lst ys) → DpAll K H3 ys (rs.map Row.d) → Dp K H3 v r.d → (∀ deep, deep + depth ≤ 12 → deep ≤ 12 ∧ r.ok many deep loops) → r.cl ≤ cR depth → mxR r ≤ mR depth → ∀ (y6 y7 y8 y9 y10 y11 y12 : Option V), ∃ (x6 x7 x8 x9 x10 x11 x12 : Option V) (ys' : List V) (rs' : List Row), [some (V.ref p), some (.int many), some (.int (depth : Int)), some (.int (loops : Int)), some (.ref b), some (.ref l), y6, y7, y8, y9, y10, y11, y12] = [some (V.ref p), some (.int many), some (.int (depth : Int)), some (.int (loops : Int)), some (.ref b), some (.ref l), x6, x7, x8, x9, x10, x11, x12] ∧ But2 p b H (upd H3 l (.lst (ys ++ [v]))) ∧ PoolAt (upd H3 l (.lst (ys ++ [v]))) p ∧ BudAt (upd H3 l (.lst (ys ++ [v]))) b (k - rowsCc rs') ∧ 0 ≤ k - rowsCc rs' ∧ (upd H3 l (.lst (ys ++ [v]))) l = some (.lst ys') ∧ DpAll K (upd H3 l (.lst (ys ++ [v]))) ys' (rs'.map Row.d) ∧ (∀ deep, deep + depth ≤ 12 → rowsOk many deep loops rs') ∧ rowsCl rs' ≤ (i + 1) * cR depth ∧ mxs rs' ≤ (i + 1) * mR depth ∧ rs'.length = i + 1 := by
        intro H3 v r c1 c2 c3 c4 c5 c6 c7 c8 c9 c10 y6 y7 y8 y9 y10 y11 y12
        have bb : But l H3 (upd H3 l (.lst (ys ++ [v]))) := But.upd
        have ecc : rowsCc (rs ++ [r]) = rowsCc rs + r.cc := by rw [cc_app]; rfl
        have ecl : rowsCl (rs ++ [r]) = rowsCl rs + r.cl := by rw [cl_app]; rfl
        have emx : mxs (rs ++ [r]) = mxs rs + mxR r := by rw [mx_app]; rfl
        have ek : k - ((rowsCc (rs ++ [r]) : Nat) : Int) = k - rowsCc rs - r.cc := by rw [ecc]; omega
        refine ⟨_, _, _, _, _, _, _, ys ++ [v], rs ++ [r], rfl, fun a o h1 h2 e => bb _ _ (ne_of_none e nl) (c1 _ _ h1 h2 e), c2.but (Ne.symm nlp) bb, by rw [ek]; exact bb _ _ (Ne.symm nlb) c3, by rw [ek]; exact c4, upd_same, ?_, fun deep hd => ok_app (hok deep hd) ⟨(c8 deep hd).1, (c8 deep hd).2, trivial⟩, by rw [ecl, Nat.succ_mul]; omega, by rw [emx, Nat.succ_mul]; omega, by rw [List.length_append, hlen]; rfl⟩
        rw [List.map_append]
        exact dps_app (dps_but (.lst c5) bb c6 rows_noL') (.cons (dp_but (.lst c5) bb c7 r.noL) .nil)
      refine ⟨_, rfl, p, 10, rfl, pt, by omega, fun kind H2 b2 p2 hkind => ?_⟩
      refine ⟨_, rfl, _, rfl, p, many, rfl, p2, by omega, fun cell H3 b3 p3 hcell => ?_⟩
      refine ⟨_, rfl, p, 4, rfl, p3, by omega, fun ri H4 b4 p4 hri => ?_⟩
      obtain ⟨cd, hcd, hreg⟩ := let4 hri
      refine ⟨_, ri, cd, rfl, rfl, (by decide +kernel), hcd, ?_⟩
      refine ⟨_, rfl, p, 2, rfl, p4, by omega, fun ev e H5 b5 p5 eo ed de => ?_⟩
      have b25 : But p H' H5 := ((b2.trans b3).trans b4).trans b5
      have b04 : But2 p b H H5 := bt.trans (But2.l b25)
      have hl4 := b25 _ _ nlp hl
      have bd4 : BudAt H5 b (k - rowsCc rs) := b25 _ _ (Ne.symm npb) bd
      have dy4 := dps_but pt.ch b25 hys rows_noL'
      have p4 := p5
      have ge : e.good := ⟨eo, by omega⟩
      have same_bud : ∀ {A B : Hp} {z : Int}, Same A B → BudAt A b z → BudAt B b z := fun s h => s _ _ h
      have bd4' : BudAt H5 b (k - rowsCc rs - ((0 : Nat) : Int)) := by rw [show k - rowsCc rs - ((0 : Nat) : Int) = k - rowsCc rs from by omega]; exact bd4
      have k0' : 0 ≤ k - rowsCc rs - ((0 : Nat) : Int) := by omega
      refine ⟨_, rfl, _, _, rfl, rfl, _, rfl, ?_⟩
      by_cases c2 : kind < 2
      · rw [decide_eq_true c2]
        refine iteT ⟨_, rfl, .inl ⟨rfl, _, .of hl4⟩, _, rfl, _, rfl, (by show 3 ≤ sizeLine; decide), fun t nt => ?_⟩
        have s5 := same_new (o := .tup [.str "read", .str ⟨#[cd]⟩, .int cell]) nt
        exact ⟨l, ys, _, rfl, rfl, s5 _ _ hl4, lys1, put _ (.ref t) (.read ⟨#[cd]⟩ cell) (b04.trans (But2.same s5)) (p4.same s5) (same_bud s5 bd4') k0' (s5 _ _ hl4) (dps_same s5 dy4) (.tup (.of upd_same) (.cons (.str _) (.cons (.str _) (.cons (.int _) .nil)))) (fun deep hd => ⟨by omega, hreg, hcell⟩) (cR_pos _) (mR_pos _) _ _ _ _ _ _ _⟩
      · rw [decide_eq_false c2]
        refine iteF ⟨_, rfl, _, _, rfl, rfl, _, rfl, ?_⟩
        by_cases c4 : kind < 4
        · rw [decide_eq_true c4]
          refine iteT ⟨_, rfl, .inl ⟨rfl, _, .of hl4⟩, _, rfl, _, rfl, (by show 3 ≤ sizeLine; decide), fun t nt => ?_⟩
          have s5 := same_new (o := .tup [.str "set", .int cell, ev]) nt
          exact ⟨l, ys, _, rfl, rfl, s5 _ _ hl4, lys1, put _ (.ref t) (.set cell e) (b04.trans (But2.same s5)) (p4.same s5) (same_bud s5 bd4') k0' (s5 _ _ hl4) (dps_same s5 dy4) (.tup (.of upd_same) (.cons (.str _) (.cons (.int _) (.cons (dp_same s5 de) .nil)))) (fun deep hd => ⟨by omega, hcell, ge⟩) (cR_pos _) (mR_pos _) _ _ _ _ _ _ _⟩
        · rw [decide_eq_false c4]
          refine iteF ⟨_, rfl, rfl, _, rfl, ?_⟩
          by_cases k4 : kind = 4
          · rw [decide_eq_true (show V.int kind = V.int 4 from congrArg V.int k4)]
            refine iteT ⟨_, rfl, .inl ⟨rfl, _, .of hl4⟩, _, rfl, _, rfl, _, rfl, _, rfl, p, 1, rfl, p4, by omega, fun fv f H6 b6 p6 fo fd df => ⟨(by show 5 ≤ sizeLine; decide), fun t nt => ?_⟩⟩
            have s7 := same_new (o := .tup [.str "swap", .str ⟨#[cd]⟩, .int cell, ev, fv]) nt
            have hl6 := b6 _ _ nlp hl4
            exact ⟨l, ys, _, rfl, rfl, s7 _ _ hl6, lys1, put _ (.ref t) (.swap ⟨#[cd]⟩ cell e f) ((b04.trans (But2.l b6)).trans (But2.same s7)) (p6.same s7) (same_bud s7 (b6 _ _ (Ne.symm npb) bd4')) k0' (s7 _ _ hl6) (dps_same s7 (dps_but p4.ch b6 dy4 rows_noL')) (.tup (.of upd_same) (.cons (.str _) (.cons (.str _) (.cons (.int _) (.cons (dp_same s7 (dp_but p4.ch b6 de e.noL)) (.cons (dp_same s7 df) .nil)))))) (fun deep hd => ⟨by omega, hreg, hcell, ge, fo, by omega⟩) (cR_pos _) (mR_pos _) _ _ _ _ _ _ _⟩
          · rw [decide_eq_false (show ¬ V.int kind = V.int 4 from fun z => k4 (V.int.inj z))]
            refine iteF ⟨_, rfl, rfl, _, rfl, ?_⟩
            by_cases k5 : kind = 5
            · rw [decide_eq_true (show V.int kind = V.int 5 from congrArg V.int k5)]
              refine iteT ⟨_, rfl, .inl ⟨rfl, _, .of hl4⟩, _, rfl, (by show 2 ≤ sizeLine; decide), fun t nt => ?_⟩
              have s5 := same_new (o := .tup [.str "answer", ev]) nt
              exact ⟨l, ys, _, rfl, rfl, s5 _ _ hl4, lys1, put _ (.ref t) (.ans e) (b04.trans (But2.same s5)) (p4.same s5) (same_bud s5 bd4') k0' (s5 _ _ hl4) (dps_same s5 dy4) (.tup (.of upd_same) (.cons (.str _) (.cons (dp_same s5 de) .nil))) (fun deep hd => ⟨by omega, ge⟩) (cR_pos _) (Nat.zero_le _) _ _ _ _ _ _ _⟩
            · rw [decide_eq_false (show ¬ V.int kind = V.int 5 from fun z => k5 (V.int.inj z))]
              refine iteF ⟨_, rfl, rfl, _, rfl, ?_⟩
              by_cases k6 : kind = 6
              · rw [decide_eq_true (show V.int kind = V.int 6 from congrArg V.int k6)]
                refine iteT ⟨_, rfl, _, _, rfl, rfl, _, rfl, ?_⟩
                by_cases d0 : (0 : Int) < (depth : Int)
                · rw [decide_eq_true d0]
                  obtain ⟨dp, rfl⟩ : ∃ dp, depth = dp + 1 := ⟨depth - 1, by omega⟩
                  have ek : (((dp + 1 : Nat) : Int) - 1) = ((dp : Nat) : Int) := by omega
                  refine iteT ⟨_, rfl, _, rfl, _, rfl, _, _, rfl, rfl, _, rfl, _, rfl, p, b, many, dp, loops, k - rowsCc rs, by rw [← ek]; rfl, p4, bd4, hk0, npb, by omega, hmany, by omega, fun v1 r1 H6 b6 p6 bd6 k6' d1 ok1 cl1 mx1 => ?_⟩
                  have hl6 := b6 _ _ nlp nlb hl4
                  refine ⟨_, rfl, .inl ⟨rfl, _, .of hl6⟩, _, rfl, _, rfl, _, rfl, _, rfl, _, rfl, _, _, rfl, rfl, _, rfl, _, rfl, p, b, many, dp, loops, k - rowsCc rs - rowsCc r1, by rw [← ek]; rfl, p6, bd6, k6', npb, by omega, hmany, by omega, fun v2 r2 H7 b7 p7 bd7 k7' d2 ok2 cl2 mx2 => ⟨(by show 4 ≤ sizeLine; decide), fun t nt => ?_⟩⟩
                  have c45p := p4.ch
                  have cb4 : Ch H5 b := .lst bd4
                  have cb6 : Ch H6 b := .lst bd6
                  have s8 := same_new (o := .tup [.str "if", ev, v1, v2]) nt
                  have hl7 := b7 _ _ nlp nlb hl6
                  have ecc : k - rowsCc rs - ((rowsCc r1 + rowsCc r2 : Nat) : Int) = k - rowsCc rs - rowsCc r1 - rowsCc r2 := by omega
                  exact ⟨l, ys, _, rfl, rfl, s8 _ _ hl7, lys1, put _ (.ref t) (.iff e r1 r2) (((b04.trans b6).trans b7).trans (But2.same s8)) (p7.same s8) (by show BudAt _ b (k - rowsCc rs - ((rowsCc r1 + rowsCc r2 : Nat) : Int)); rw [ecc]; exact same_bud s8 bd7) (by show 0 ≤ k - rowsCc rs - ((rowsCc r1 + rowsCc r2 : Nat) : Int); rw [ecc]; exact k7') (s8 _ _ hl7) (dps_same s8 (dps_b2 p6.ch cb6 b7 (dps_b2 c45p cb4 b6 dy4 rows_noL') rows_noL')) (.tup (.of upd_same) (.cons (.str _) (.cons (dp_same s8 (dp_b2 p6.ch cb6 b7 (dp_b2 c45p cb4 b6 de e.noL) e.noL)) (.cons (dp_same s8 (dp_b2 p6.ch cb6 b7 d1 (.tup (rows_noL r1)))) (.cons (dp_same s8 d2) .nil))))) (fun deep hd => ⟨by omega, ge, ok1 _ (by omega), ok2 _ (by omega)⟩) (by show 1 + (rowsCl r1 + rowsCl r2) ≤ 1 + 2 * (3 * cR dp); omega) (by show mxs r1 + mxs r2 ≤ 1 + 9 * (3 * mR dp); omega) _ _ _ _ _ _ _⟩
                · rw [decide_eq_false d0]
                  refine iteF ⟨_, rfl, rfl, _, rfl, ?_⟩
                  rw [decide_eq_false (show ¬ V.int kind = V.int 7 from fun z => by have := V.int.inj z; omega)]
                  refine iteF ⟨_, rfl, rfl, _, rfl, ?_⟩
                  rw [decide_eq_false (show ¬ V.int kind = V.int 8 from fun z => by have := V.int.inj z; omega)]
                  refine iteF ?_
                  refine ⟨_, rfl, .inl ⟨rfl, _, .of hl4⟩, _, rfl, _, rfl, (by show 3 ≤ sizeLine; decide), fun t nt => ?_⟩
                  have s5 := same_new (o := .tup [.str "keep", .str ⟨#[cd]⟩, ev]) nt
                  exact ⟨l, ys, _, rfl, rfl, s5 _ _ hl4, lys1, put _ (.ref t) (.keep ⟨#[cd]⟩ e) (b04.trans (But2.same s5)) (p4.same s5) (same_bud s5 bd4') k0' (s5 _ _ hl4) (dps_same s5 dy4) (.tup (.of upd_same) (.cons (.str _) (.cons (.str _) (.cons (dp_same s5 de) .nil)))) (fun deep hd => ⟨by omega, hreg, ge⟩) (cR_pos _) (Nat.zero_le _) _ _ _ _ _ _ _⟩
              · rw [decide_eq_false (show ¬ V.int kind = V.int 6 from fun z => k6 (V.int.inj z))]
                refine iteF ⟨_, rfl, rfl, _, rfl, ?_⟩
                by_cases k7 : kind = 7
                · rw [decide_eq_true (show V.int kind = V.int 7 from congrArg V.int k7)]
                  refine iteT ⟨_, rfl, _, _, rfl, rfl, _, rfl, ?_⟩
                  by_cases d0 : (0 : Int) < (depth : Int)
                  · rw [decide_eq_true d0]
                    obtain ⟨dp, rfl⟩ : ∃ dp, depth = dp + 1 := ⟨depth - 1, by omega⟩
                    have ek : (((dp + 1 : Nat) : Int) - 1) = ((dp : Nat) : Int) := by omega
                    have el : ((loops : Nat) : Int) + 1 = ((loops + 1 : Nat) : Int) := by omega
                    refine iteT ⟨_, rfl, p, 5, rfl, p4, by omega, fun ct H6 b6 p6 hct => ⟨_, rfl, rfl, _, rfl, ?_⟩⟩
                    have hl6 := b6 _ _ nlp hl4
                    have bd6 : BudAt H6 b (k - rowsCc rs) := b6 _ _ (Ne.symm npb) bd4
                    have cb6 : Ch H6 b := .lst bd6
                    by_cases c4 : ct = 4
                    · rw [decide_eq_true (show V.int ct = V.int 4 from congrArg V.int c4)]
                      refine iteT ?_
                      refine ⟨_, rfl, .inl ⟨rfl, _, .of hl6⟩, _, rfl, _, rfl, _, rfl, _, rfl, _, _, rfl, rfl, _, rfl, _, _, rfl, rfl, _, rfl, p, b, many, dp, loops + 1, k - rowsCc rs, by rw [← ek, ← el]; rfl, p6, bd6, hk0, npb, by omega, hmany, by omega, fun v2 r2 H7 b7 p7 bd7 k7' d2 ok2 cl2 mx2 => ⟨(by show 3 ≤ sizeLine; decide), fun t nt => ?_⟩⟩
                      have s8 := same_new (o := .tup [.str "times", .str "x", v2]) nt
                      have hl7 := b7 _ _ nlp nlb hl6
                      exact ⟨l, ys, _, rfl, rfl, s8 _ _ hl7, lys1, put _ (.ref t) (.times (.reg "x") r2) (((b04.trans (But2.l b6)).trans b7).trans (But2.same s8)) (p7.same s8) (same_bud s8 bd7) k7' (s8 _ _ hl7) (dps_same s8 (dps_b2 p6.ch cb6 b7 (dps_but p4.ch b6 dy4 rows_noL') rows_noL')) (.tup (.of upd_same) (.cons (.str _) (.cons (.str _) (.cons (dp_same s8 d2) .nil)))) (fun deep hd => ⟨by omega, ⟨in_x, by show 0 ≤ 6; decide⟩, by omega, ok2 _ (by omega)⟩) (by show 1 + rowsCl r2 ≤ 1 + 2 * (3 * cR dp); omega) (by show 9 * mxs r2 ≤ 1 + 9 * (3 * mR dp); omega) _ _ _ _ _ _ _⟩
                    · rw [decide_eq_false (show ¬ V.int ct = V.int 4 from fun z => c4 (V.int.inj z))]
                      refine iteF ?_
                      refine ⟨_, rfl, .inl ⟨rfl, _, .of hl6⟩, _, rfl, _, rfl, _, rfl, _, rfl, _, _, rfl, rfl, _, rfl, _, _, rfl, rfl, _, rfl, p, b, many, dp, loops + 1, k - rowsCc rs, by rw [← ek, ← el]; rfl, p6, bd6, hk0, npb, by omega, hmany, by omega, fun v2 r2 H7 b7 p7 bd7 k7' d2 ok2 cl2 mx2 => ⟨(by show 3 ≤ sizeLine; decide), fun t nt => ?_⟩⟩
                      have s8 := same_new (o := .tup [.str "times", .int ct, v2]) nt
                      have hl7 := b7 _ _ nlp nlb hl6
                      exact ⟨l, ys, _, rfl, rfl, s8 _ _ hl7, lys1, put _ (.ref t) (.times (.num ct) r2) (((b04.trans (But2.l b6)).trans b7).trans (But2.same s8)) (p7.same s8) (same_bud s8 bd7) k7' (s8 _ _ hl7) (dps_same s8 (dps_b2 p6.ch cb6 b7 (dps_but p4.ch b6 dy4 rows_noL') rows_noL')) (.tup (.of upd_same) (.cons (.str _) (.cons (.int _) (.cons (dp_same s8 d2) .nil)))) (fun deep hd => ⟨by omega, ⟨(by show 0 ≤ ct ∧ ct ≤ 9; omega), by show 0 ≤ 6; decide⟩, by omega, ok2 _ (by omega)⟩) (by show 1 + rowsCl r2 ≤ 1 + 2 * (3 * cR dp); omega) (by show 9 * mxs r2 ≤ 1 + 9 * (3 * mR dp); omega) _ _ _ _ _ _ _⟩
                  · rw [decide_eq_false d0]
                    refine iteF ⟨_, rfl, rfl, _, rfl, ?_⟩
                    rw [decide_eq_false (show ¬ V.int kind = V.int 8 from fun z => by have := V.int.inj z; omega)]
                    refine iteF ?_
                    refine ⟨_, rfl, .inl ⟨rfl, _, .of hl4⟩, _, rfl, _, rfl, (by show 3 ≤ sizeLine; decide), fun t nt => ?_⟩
                    have s5 := same_new (o := .tup [.str "keep", .str ⟨#[cd]⟩, ev]) nt
                    exact ⟨l, ys, _, rfl, rfl, s5 _ _ hl4, lys1, put _ (.ref t) (.keep ⟨#[cd]⟩ e) (b04.trans (But2.same s5)) (p4.same s5) (same_bud s5 bd4') k0' (s5 _ _ hl4) (dps_same s5 dy4) (.tup (.of upd_same) (.cons (.str _) (.cons (.str _) (.cons (dp_same s5 de) .nil)))) (fun deep hd => ⟨by omega, hreg, ge⟩) (cR_pos _) (Nat.zero_le _) _ _ _ _ _ _ _⟩
                · rw [decide_eq_false (show ¬ V.int kind = V.int 7 from fun z => k7 (V.int.inj z))]
                  refine iteF ⟨_, rfl, rfl, _, rfl, ?_⟩
                  by_cases k8 : kind = 8
                  · rw [decide_eq_true (show V.int kind = V.int 8 from congrArg V.int k8)]
                    refine iteT ⟨_, rfl, rfl, _, rfl, ?_⟩
                    by_cases l0 : loops = 0
                    · rw [decide_eq_true (show V.int (loops : Int) = V.int 0 from by rw [l0]; rfl)]
                      refine iteT ⟨_, rfl, _, _, _, _, rfl, rfl, .of bd4, at0, _, _, rfl, rfl, _, rfl, ?_⟩
                      by_cases g0 : (0 : Int) < k - rowsCc rs
                      · rw [decide_eq_true g0]
                        refine iteT ⟨_, rfl, _, _, _, _, rfl, rfl, .of bd4, at0, _, _, rfl, rfl, _, rfl, b, _, _, 0, rfl, rfl, bd4, rfl, ?_⟩
                        have bb : But b H5 (upd H5 b (.lst (([.int (k - rowsCc rs)] : List V).set 0 (.int (k - rowsCc rs - 1))))) := But.upd
                        have bd5 : BudAt (upd H5 b (.lst (([.int (k - rowsCc rs)] : List V).set 0 (.int (k - rowsCc rs - 1))))) b (k - rowsCc rs - ((1 : Nat) : Int)) := upd_same
                        have cb4 : Ch H5 b := .lst bd4
                        have hl6 := bb _ _ nlb hl4
                        have p6 := p4.but npb bb
                        have dy6 := dps_but cb4 bb dy4 rows_noL'
                        generalize upd H5 b (.lst (([.int (k - rowsCc rs)] : List V).set 0 (.int (k - rowsCc rs - 1)))) = H6 at bb bd5 hl6 p6 dy6 ⊢
                        refine ⟨_, rfl, .inl ⟨rfl, _, .of hl6⟩, _, rfl, (by show 2 ≤ sizeLine; decide), fun t nt => ?_⟩
                        have s7 := same_new (o := .tup [.str "coin", .str ⟨#[cd]⟩]) nt
                        exact ⟨l, ys, _, rfl, rfl, s7 _ _ hl6, lys1, put _ (.ref t) (.coin ⟨#[cd]⟩) ((b04.trans (But2.r bb)).trans (But2.same s7)) (p6.same s7) (same_bud s7 bd5) (by show 0 ≤ k - rowsCc rs - ((1 : Nat) : Int); omega) (s7 _ _ hl6) (dps_same s7 dy6) (.tup (.of upd_same) (.cons (.str _) (.cons (.str _) .nil))) (fun deep hd => ⟨by omega, hreg, l0⟩) (cR_pos _) (Nat.zero_le _) _ _ _ _ _ _ _⟩
                      · rw [decide_eq_false g0]
                        refine iteF ?_
                        refine ⟨_, rfl, .inl ⟨rfl, _, .of hl4⟩, _, rfl, _, rfl, (by show 3 ≤ sizeLine; decide), fun t nt => ?_⟩
                        have s5 := same_new (o := .tup [.str "keep", .str ⟨#[cd]⟩, ev]) nt
                        exact ⟨l, ys, _, rfl, rfl, s5 _ _ hl4, lys1, put _ (.ref t) (.keep ⟨#[cd]⟩ e) (b04.trans (But2.same s5)) (p4.same s5) (same_bud s5 bd4') k0' (s5 _ _ hl4) (dps_same s5 dy4) (.tup (.of upd_same) (.cons (.str _) (.cons (.str _) (.cons (dp_same s5 de) .nil)))) (fun deep hd => ⟨by omega, hreg, ge⟩) (cR_pos _) (Nat.zero_le _) _ _ _ _ _ _ _⟩
                    · rw [decide_eq_false (show ¬ V.int (loops : Int) = V.int 0 from fun z => l0 (by have := V.int.inj z; omega))]
                      refine iteF ?_
                      refine ⟨_, rfl, .inl ⟨rfl, _, .of hl4⟩, _, rfl, _, rfl, (by show 3 ≤ sizeLine; decide), fun t nt => ?_⟩
                      have s5 := same_new (o := .tup [.str "keep", .str ⟨#[cd]⟩, ev]) nt
                      exact ⟨l, ys, _, rfl, rfl, s5 _ _ hl4, lys1, put _ (.ref t) (.keep ⟨#[cd]⟩ e) (b04.trans (But2.same s5)) (p4.same s5) (same_bud s5 bd4') k0' (s5 _ _ hl4) (dps_same s5 dy4) (.tup (.of upd_same) (.cons (.str _) (.cons (.str _) (.cons (dp_same s5 de) .nil)))) (fun deep hd => ⟨by omega, hreg, ge⟩) (cR_pos _) (Nat.zero_le _) _ _ _ _ _ _ _⟩
                  · rw [decide_eq_false (show ¬ V.int kind = V.int 8 from fun z => k8 (V.int.inj z))]
                    refine iteF ?_
                    refine ⟨_, rfl, .inl ⟨rfl, _, .of hl4⟩, _, rfl, _, rfl, (by show 3 ≤ sizeLine; decide), fun t nt => ?_⟩
                    have s5 := same_new (o := .tup [.str "keep", .str ⟨#[cd]⟩, ev]) nt
                    exact ⟨l, ys, _, rfl, rfl, s5 _ _ hl4, lys1, put _ (.ref t) (.keep ⟨#[cd]⟩ e) (b04.trans (But2.same s5)) (p4.same s5) (same_bud s5 bd4') k0' (s5 _ _ hl4) (dps_same s5 dy4) (.tup (.of upd_same) (.cons (.str _) (.cons (.str _) (.cons (dp_same s5 de) .nil)))) (fun deep hd => ⟨by omega, hreg, ge⟩) (cR_pos _) (Nat.zero_le _) _ _ _ _ _ _ _⟩
    · rintro σ' H' ⟨_, _, _, _, _, _, _, ys, rs, rfl, bt, pt, bd, hk0, hl, hys, hok, hcl, hmx, hlen⟩
      have c3 : cnt.toNat ≤ 3 := by omega
      refine ⟨_, rfl, .inl ⟨l, _, rfl, .of hl, fun t nt => ?_⟩⟩
      have s9 := same_new (o := .tup ys) nt
      refine q (.ref t) rs _ (bt.trans (But2.same s9)) (pt.same s9) (s9 _ _ bd) hk0 (.tup (.of upd_same) ?_) hok (Nat.le_trans hcl (Nat.mul_le_mul_right _ c3)) (Nat.le_trans hmx (Nat.mul_le_mul_right _ c3))
      rw [rowsD_map]
      exact dps_same s9 hys
theorem ca_l_rows (T : Txt w K mg) : ∀ n, Ca P w K mg base (n + 10) "_law_rows" (spRowsD K n)
  | 0 => by
    refine ca_of (N := ["_law_pool_here", "_law_many", "_law_depth", "_law_loops", "_law_budget", "_law_rows_here", "_law_turn", "_law_kind", "_law_cell", "_law_reg", "_law_e_here", "_law_first", "_law_count"]) (ps := ["_law_pool_here", "_law_many", "_law_depth", "_law_loops", "_law_budget"]) T.f_l_rows T.g_law_rows ⟨rfl, rfl, rfl, by decide +kernel, rfl, by decide +kernel, by decide +kernel⟩ (fun _ _ _ _ _ _ us hl => match us, hl with | [_, _, _, _, _], _ => rfl)
      (fun vs H Q E h => by obtain ⟨p, b, many, depth, loops, k, rfl, hp, hb, hk, npb, hn, hmany, hdl, q⟩ := h; rfl) (fun cdv A outer s H vs Q E hr h => ?_)
    have nd : (["_law_pool_here", "_law_many", "_law_depth", "_law_loops", "_law_budget", "_law_rows_here", "_law_turn", "_law_kind", "_law_cell", "_law_reg", "_law_e_here", "_law_first", "_law_count"] : List Str).Nodup := by decide +kernel
    obtain ⟨p, b, many, depth, loops, k, rfl, hp, hb, hk, npb, hn, hmany, hdl, q⟩ := h
    omega
  | n + 1 => ca_l_rows1 (ca_l_rows T n) T
end

end M

set_option Elab.async false
set_option linter.all false
set_option maxRecDepth 100000
set_option maxHeartbeats 2000000
namespace M
open PySem PySem.Spec PyProof.Rows L2

/-! ### displays of data that hang on what was drawn -/
section
variable {X : Cx} {K : PySem.W.Frag} {γ : Type} {C : γ → L2.St → Hp → Prop} {D : γ → PyData} {Ds : γ → List PyData} {e : Expr} {es : List Expr} {pos : Pos}
def Stg (C : γ → L2.St → Hp → Prop) : Prop := ∀ g σ H H', Same H H' → C g σ H → C g σ H'
def tGc (K : PySem.W.Frag) (C : γ → L2.St → Hp → Prop) (D : γ → PyData) : TE := fun σ H Q => ∃ g, C g σ H ∧ ∀ v H', Same H H' → Dp K H' v (D g) → Q v H'
def tGs (K : PySem.W.Frag) (C : γ → L2.St → Hp → Prop) (Ds : γ → List PyData) : TA := fun σ H Q => ∃ g, C g σ H ∧ ∀ vs H', Same H H' → DpAll K H' vs (Ds g) → Q vs H'
theorem pa_impG {t t' : TA} (h : PA X es t) (i : ∀ σ H Q, t' σ H Q → t σ H Q) : PA X es t' := ⟨fun pos pins s σ H Q I q => h.run pos pins s σ H Q I (i σ H Q q)⟩
theorem gd_str {x : Str} {j : Nat} : PE X (.Constant (.str x) j pos) (tGc K C fun _ => .str x) := pe_imp pe_str fun σ H Q ⟨_, _, q⟩ => q _ H (Same.refl _) (.str _)
theorem gd_int {x : Int} {j : Nat} : PE X (.Constant (.int x) j pos) (tGc K C fun _ => .int x) := pe_imp pe_int fun σ H Q ⟨_, _, q⟩ => q _ H (Same.refl _) (.int _)
theorem gd_nil : PA X [] (tGs K C fun _ => []) := pa_impG pa_nil fun σ H Q ⟨_, _, q⟩ => q [] H (Same.refl _) .nil
theorem gd_cons (hC : Stg C) (he : PE X e (tGc K C D)) (ht : PA X es (tGs K C Ds)) (hs : starEach (e :: es) X.env = (false, eval e X.env) :: starEach es X.env := by rfl) : PA X (e :: es) (tGs K C fun g => D g :: Ds g) :=
  pa_impG (pa_cons he ht hs) fun σ H Q ⟨g, c, q⟩ => ⟨g, c, fun v H1 s1 dv => ⟨g, hC _ _ _ _ s1 c, fun vs H2 s2 dvs => q _ H2 (s1.trans s2) (.cons (dp_same s2 dv) dvs)⟩⟩
theorem gd_tup {n : Nat} (h : PA X es (tGs K C Ds)) (hl : ∀ g, (Ds g).length ≤ 100 := by intro _; exact Nat.le_of_ble_eq_true rfl) : PE X (.Tuple es n pos) (tGc K C fun g => .tuple (Ds g)) :=
  pe_imp (pe_tup h) fun σ H Q ⟨g, c, q⟩ => ⟨g, c, fun vs H1 s1 dvs => ⟨by have := hl g; rw [dps_len dvs, sizeLine_eq]; omega, fun t nt => q _ _ (s1.trans (same_new nt)) (.tup (.of upd_same) (dps_same (same_new nt) dvs))⟩⟩
theorem gd_of {t : TE} (h : PE X e t) (k : ∀ g σ H, C g σ H → ∀ Q : VK, (∀ v H', Same H H' → Dp K H' v (D g) → Q v H') → t σ H Q) : PE X e (tGc K C D) := pe_imp h fun σ H Q ⟨g, c, q⟩ => k g σ H c Q q
end
section
variable {P : Program} {w : World} {K : PySem.W.Frag} {mg : Str → Option Value} {base : Heap}
theorem pool_ne {H : Hp} {p b : Addr} (h : PoolAt H p) (nb : H b = none) : p ≠ b := fun e => by
  obtain ⟨_, _, _, h, _⟩ := h
  rw [e, nb] at h
  cases h
def stopR : Row := .iff (.reg "a") [.ans (.num 0)] []
def spBodyL (K : PySem.W.Frag) : Sp := fun vs H Q _ => ∃ (p : Addr) (many coins : Int), vs = [.ref p, .int many, .int coins] ∧ PoolAt H p ∧ (1 ≤ many ∧ many ≤ 6) ∧ (0 ≤ coins ∧ coins ≤ 4) ∧
  ∀ (v : V) (rs : List Row) (H' : Hp), But p H H' → PoolAt H' p → Dp K H' v (.tuple (rowsD rs)) → rowsOk many 1 0 rs → (rowsCc rs ≤ 4 ∧ (coins = 0 → rowsCc rs = 0)) → rowsCl rs ≤ 2000 → mxs rs ≤ 40000 → Q v H'
theorem ca_l_body (T : Txt w K mg) : Ca P w K mg base 14 "_law_body" (spBodyL K) := by
  refine ca_of (N := ["_law_pool_here", "_law_many", "_law_coins", "_law_kind", "_law_c", "_law_d", "_law_e_here", "_law_stop"]) (ps := ["_law_pool_here", "_law_many", "_law_coins"]) T.f_l_body T.g_law_body ⟨rfl, rfl, rfl, by decide +kernel, rfl, by decide +kernel, by decide +kernel⟩ (fun _ _ _ _ _ _ us hl => match us, hl with | [_, _, _], _ => rfl)
    (fun vs H Q E h => by obtain ⟨p, many, coins, rfl, hp, hmany, hcoins, q⟩ := h; rfl) (fun cdv A outer s H vs Q E hr h => ?_)
  have nd : (["_law_pool_here", "_law_many", "_law_coins", "_law_kind", "_law_c", "_law_d", "_law_e_here", "_law_stop"] : List Str).Nodup := by decide +kernel
  obtain ⟨p, many, coins, rfl, hp, hmany, hcoins, q⟩ := h
  let C0 : Int × Int × Exp → L2.St → Hp → Prop := fun g σ H => σ[4]? = some (some (.int g.1)) ∧ σ[5]? = some (some (.int g.2.1)) ∧ ∃ v, σ[6]? = some (some v) ∧ Dp K H v g.2.2.d
  let C1 : Int → L2.St → Hp → Prop := fun g σ H => σ[4]? = some (some (.int g)) ∧ ∃ v, σ[7]? = some (some v) ∧ Dp K H v stopR.d
  let C3 : Unit → L2.St → Hp → Prop := fun _ _ _ => True
  have h0 : Stg C0 := fun g σ H H' s ⟨e1, e2, v, e3, d⟩ => ⟨e1, e2, v, e3, dp_same s d⟩
  have h1 : Stg C1 := fun g σ H H' s ⟨e1, v, e3, d⟩ => ⟨e1, v, e3, dp_same s d⟩
  have h3 : Stg C3 := fun g σ H H' s c => trivial
  have f4 : ∀ g σ H, C0 g σ H → ∀ Q : VK, (∀ v H', Same H H' → Dp K H' v (.int g.1) → Q v H') → tVar 4 σ H Q := fun g σ H ⟨e1, e2, v, e3, d⟩ Q q => ⟨_, e1, q _ H (Same.refl _) (.int _)⟩
  have f5 : ∀ g σ H, C0 g σ H → ∀ Q : VK, (∀ v H', Same H H' → Dp K H' v (.int g.2.1) → Q v H') → tVar 5 σ H Q := fun g σ H ⟨e1, e2, v, e3, d⟩ Q q => ⟨_, e2, q _ H (Same.refl _) (.int _)⟩
  have f6 : ∀ g σ H, C0 g σ H → ∀ Q : VK, (∀ v H', Same H H' → Dp K H' v g.2.2.d → Q v H') → tVar 6 σ H Q := fun g σ H ⟨e1, e2, v, e3, d⟩ Q q => ⟨_, e3, q _ H (Same.refl _) d⟩
  have g4 : ∀ g σ H, C1 g σ H → ∀ Q : VK, (∀ v H', Same H H' → Dp K H' v (.int g) → Q v H') → tVar 4 σ H Q := fun g σ H ⟨e1, v, e3, d⟩ Q q => ⟨_, e1, q _ H (Same.refl _) (.int _)⟩
  have g7 : ∀ g σ H, C1 g σ H → ∀ Q : VK, (∀ v H', Same H H' → Dp K H' v stopR.d → Q v H') → tVar 7 σ H Q := fun g σ H ⟨e1, v, e3, d⟩ Q q => ⟨_, e3, q _ H (Same.refl _) d⟩
  refine ⟨_, (pss_cons (ps_set (i := 3) nd rfl (.inl rfl) (pe_ca (ca_l_draw T) hr (pa_cons (pv 0) (pa_cons pe_int pa_nil))))
      (pss_cons (ps_set (i := 4) nd rfl (.inl rfl) (pe_ca (ca_l_draw T) hr (pa_cons (pv 0) (pa_cons (pv 1) pa_nil))))
      (pss_cons (ps_set (i := 5) nd rfl (.inl rfl) (pe_ca (ca_l_draw T) hr (pa_cons (pv 0) (pa_cons (pv 1) pa_nil))))
      (pss_cons (ps_set (i := 6) nd rfl (.inl rfl) (pe_ca (ca_l_e 3 T) hr (pa_cons (pv 0) (pa_cons pe_int pa_nil))))
      (pss_cons (ps_if (pt_cmpR op_eq (pv 3) pe_int (nomark _)) (pss_one (ps_ret (gd_tup (K := K) (gd_cons h0 (gd_tup (K := K) (gd_cons h0 gd_str (gd_cons h0 (gd_of (C := C0) (pv 4) f4) (gd_cons h0 gd_str gd_nil)))) gd_nil)))) pss_nil)
      (pss_cons (ps_if (pt_cmpR op_eq (pv 3) pe_int (nomark _)) (pss_one (ps_ret (gd_tup (K := K) (gd_cons h0 (gd_tup (K := K) (gd_cons h0 gd_str (gd_cons h0 gd_str (gd_cons h0 (gd_of (C := C0) (pv 4) f4) gd_nil)))) (gd_cons h0 (gd_tup (K := K) (gd_cons h0 gd_str (gd_cons h0 gd_str gd_nil))) gd_nil))))) pss_nil)
      (pss_cons (ps_if (pt_cmpR op_eq (pv 3) pe_int (nomark _)) (pss_one (ps_ret (gd_tup (K := K) (gd_cons h0 (gd_tup (K := K) (gd_cons h0 gd_str (gd_cons h0 gd_str (gd_cons h0 (gd_of (C := C0) (pv 4) f4) gd_nil)))) (gd_cons h0 (gd_tup (K := K) (gd_cons h0 gd_str (gd_cons h0 (gd_of (C := C0) (pv 4) f4) (gd_cons h0 (gd_tup (K := K) (gd_cons h0 gd_str (gd_cons h0 gd_str (gd_cons h0 (gd_of (C := C0) (pv 6) f6) gd_nil)))) gd_nil)))) (gd_cons h0 (gd_tup (K := K) (gd_cons h0 gd_str (gd_cons h0 gd_str gd_nil))) gd_nil)))))) pss_nil)
      (pss_cons (ps_if (pt_cmpR op_eq (pv 3) pe_int (nomark _)) (pss_one (ps_ret (gd_tup (K := K) (gd_cons h0 (gd_tup (K := K) (gd_cons h0 gd_str (gd_cons h0 gd_str (gd_cons h0 (gd_of (C := C0) (pv 4) f4) gd_nil)))) (gd_cons h0 (gd_tup (K := K) (gd_cons h0 gd_str (gd_cons h0 (gd_of (C := C0) (pv 5) f5) (gd_cons h0 gd_str gd_nil)))) (gd_cons h0 (gd_tup (K := K) (gd_cons h0 gd_str (gd_cons h0 (gd_of (C := C0) (pv 4) f4) (gd_cons h0 gd_str gd_nil)))) gd_nil)))))) pss_nil)
      (pss_cons (ps_if (pt_cmpR op_eq (pv 3) pe_int (nomark _)) (pss_one (ps_ret (gd_tup (K := K) (gd_cons h0 (gd_tup (K := K) (gd_cons h0 gd_str (gd_cons h0 (gd_of (C := C0) (pv 4) f4) (gd_cons h0 (gd_of (C := C0) (pv 6) f6) gd_nil)))) gd_nil)))) pss_nil)
      (pss_cons (ps_if (pt_cmpR op_eq (pv 3) pe_int (nomark _)) (pss_one (ps_ret (gd_tup (K := K) (gd_cons h0 (gd_tup (K := K) (gd_cons h0 gd_str (gd_cons h0 gd_str (gd_cons h0 (gd_of (C := C0) (pv 4) f4) (gd_cons h0 (gd_of (C := C0) (pv 6) f6) (gd_cons h0 gd_str gd_nil)))))) (gd_cons h0 (gd_tup (K := K) (gd_cons h0 gd_str (gd_cons h0 gd_str gd_nil))) gd_nil))))) pss_nil)
      (pss_cons (ps_if (pt_cmpR op_eq (pv 3) pe_int (nomark _)) (pss_one (ps_ret (gd_tup (K := K) (gd_cons h0 (gd_tup (K := K) (gd_cons h0 gd_str (gd_cons h0 gd_str (gd_cons h0 (gd_of (C := C0) (pv 4) f4) gd_nil)))) (gd_cons h0 (gd_tup (K := K) (gd_cons h0 gd_str (gd_cons h0 gd_str (gd_cons h0 (gd_of (C := C0) (pv 5) f5) gd_nil)))) (gd_cons h0 (gd_tup (K := K) (gd_cons h0 gd_str (gd_cons h0 (gd_tup (K := K) (gd_cons h0 gd_str (gd_cons h0 gd_str (gd_cons h0 gd_str gd_nil)))) (gd_cons h0 (gd_tup (K := K) (gd_cons h0 (gd_tup (K := K) (gd_cons h0 gd_str (gd_cons h0 (gd_of (C := C0) (pv 6) f6) gd_nil))) gd_nil)) (gd_cons h0 (gd_tup (K := K) (gd_cons h0 (gd_tup (K := K) (gd_cons h0 gd_str (gd_cons h0 (gd_of (C := C0) (pv 4) f4) (gd_cons h0 gd_str gd_nil)))) gd_nil)) gd_nil))))) gd_nil)))))) pss_nil)
      (pss_cons (ps_if (pt_cmpR op_eq (pv 3) pe_int (nomark _)) (pss_one (ps_ret (gd_tup (K := K) (gd_cons h0 (gd_tup (K := K) (gd_cons h0 gd_str (gd_cons h0 gd_str (gd_cons h0 (gd_of (C := C0) (pv 4) f4) gd_nil)))) (gd_cons h0 (gd_tup (K := K) (gd_cons h0 gd_str (gd_cons h0 gd_str (gd_cons h0 (gd_of (C := C0) (pv 5) f5) gd_nil)))) (gd_cons h0 (gd_tup (K := K) (gd_cons h0 gd_str (gd_cons h0 (gd_of (C := C0) (pv 4) f4) (gd_cons h0 gd_str gd_nil)))) (gd_cons h0 (gd_tup (K := K) (gd_cons h0 gd_str (gd_cons h0 (gd_of (C := C0) (pv 5) f5) (gd_cons h0 gd_str gd_nil)))) gd_nil))))))) pss_nil)
      (pss_cons (ps_if (PW.pt (pw_and (pt_cmpR op_eq (pv 3) pe_int (nomark _)) (pw_and1 (pt_cmpR op_gt (pv 2) pe_int (nomark _))))) (pss_cons (ps_set (i := 7) nd rfl (.inl rfl) (gd_tup (K := K) (gd_cons h3 gd_str (gd_cons h3 gd_str (gd_cons h3 (gd_tup (K := K) (gd_cons h3 (gd_tup (K := K) (gd_cons h3 gd_str (gd_cons h3 gd_int gd_nil))) gd_nil)) (gd_cons h3 (gd_tup (K := K) gd_nil) gd_nil))))))
      (pss_one (ps_ret ((gd_tup (K := K) (gd_cons h1 (gd_tup (K := K) (gd_cons h1 gd_str (gd_cons h1 gd_str (gd_cons h1 (gd_of (C := C1) (pv 4) g4) gd_nil)))) (gd_cons h1 (gd_of (C := C1) (pv 7) g7) (gd_cons h1 (gd_tup (K := K) (gd_cons h1 gd_str (gd_cons h1 gd_str gd_nil))) (gd_cons h1 (gd_tup (K := K) (gd_cons h1 gd_str (gd_cons h1 (gd_of (C := C1) (pv 4) g4) (gd_cons h1 (gd_tup (K := K) (gd_cons h1 gd_str (gd_cons h1 gd_str (gd_cons h1 gd_int gd_nil)))) gd_nil)))) (gd_cons h1 (gd_tup (K := K) (gd_cons h1 gd_str (gd_cons h1 gd_int gd_nil))) gd_nil)))))))))) pss_nil)
      (pss_cons (ps_if (PW.pt (pw_and (pt_cmpR op_eq (pv 3) pe_int (nomark _)) (pw_and1 (pt_cmpR op_gt (pv 2) pe_int (nomark _))))) (pss_one (ps_ret (gd_tup (K := K) (gd_cons h0 (gd_tup (K := K) (gd_cons h0 gd_str (gd_cons h0 gd_str gd_nil))) (gd_cons h0 (gd_tup (K := K) (gd_cons h0 gd_str (gd_cons h0 (gd_of (C := C0) (pv 4) f4) (gd_cons h0 (gd_tup (K := K) (gd_cons h0 gd_str (gd_cons h0 gd_str (gd_cons h0 gd_str gd_nil)))) gd_nil)))) gd_nil))))) pss_nil)
      (pss_one (ps_ret (pe_ca (ca_l_rows T 3) hr (pa_cons (pv 0) (pa_cons (pv 1) (pa_cons pe_int (pa_cons pe_int (pa_cons (pe_lst (pa_cons (pv 2) pa_nil)) pa_nil)))))))))))))))))))))), ?_⟩
  refine ⟨_, rfl, p, 12, rfl, hp, by omega, fun kind H1 b1 p1 hkind => ?_⟩
  refine ⟨_, rfl, _, rfl, p, many, rfl, p1, by omega, fun c H2 b2 p2 hc => ?_⟩
  refine ⟨_, rfl, _, rfl, p, many, rfl, p2, by omega, fun d H3 b3 p3 hd => ?_⟩
  refine ⟨_, rfl, p, 1, rfl, p3, by omega, fun ev e H4 b4 p4 eo ed de => ?_⟩
  have b14 := ((b1.trans b2).trans b3).trans b4
  have ge : e.good := ⟨eo, by omega⟩
  have ra : ("a" : Str) ∈ regs4 := by decide +kernel
  have rb : ("b" : Str) ∈ regs4 := by decide +kernel
  have xa : ("a" : Str) ∈ regs5 := by decide +kernel
  have xb : ("b" : Str) ∈ regs5 := by decide +kernel
  have sp : ("+" : Str) ∈ signs := by decide +kernel
  have se : ("=" : Str) ∈ signs := by decide +kernel
  have z0 : (0 : Nat) ≤ 6 := by decide
  have z1 : (1 : Nat) ≤ 6 := by decide
  have gx : Exp.good (.reg "x") := ⟨in_x, z0⟩
  have ga : Exp.good (.reg "a") := ⟨xa, z0⟩
  have gb : Exp.good (.reg "b") := ⟨xb, z0⟩
  have g0 : Exp.good (.num 0) := ⟨(by show (0 : Int) ≤ 0 ∧ (0 : Int) ≤ 9; decide), z0⟩
  have g1 : Exp.good (.num 1) := ⟨(by show (0 : Int) ≤ 1 ∧ (1 : Int) ≤ 9; decide), z0⟩
  have gq : Exp.good (.op "=" (.reg "a") (.reg "b")) := ⟨⟨se, xa, xb⟩, z1⟩
  have gbx : Exp.good (.op "+" (.reg "b") (.reg "x")) := ⟨⟨sp, xb, in_x⟩, z1⟩
  have gb1 : Exp.good (.op "+" (.reg "b") (.num 1)) := ⟨⟨sp, xb, g1.1⟩, z1⟩
  have gp : Exp.good (.op "+" (.reg "a") e) := ⟨⟨sp, xa, eo⟩, by show Nat.max 0 e.dep + 1 ≤ 6; have := Nat.max_le.mpr ⟨Nat.zero_le _, ed⟩; have : Nat.max 0 e.dep ≤ 1 := this; omega⟩
  have fin : ∀ (v : V) (H' : Hp) (rs : List Row), Same H4 H' → Dp K H' v (.tuple (rowsD rs)) → rowsOk many 1 0 rs → (rowsCc rs ≤ 4 ∧ (coins = 0 → rowsCc rs = 0)) → rowsCl rs ≤ 2000 → mxs rs ≤ 40000 → Q v H' := fun v H' rs s d o1 o2 o3 o4 => q v rs H' (b14.trans (same_but s)) (p4.same s) d o1 o2 o3 o4
  refine ⟨_, rfl, rfl, _, rfl, ?_⟩
  by_cases k0 : kind = 0
  · rw [decide_eq_true (show V.int kind = V.int 0 from congrArg V.int k0)]
    exact iteT ⟨(c, d, e), ⟨rfl, rfl, ev, rfl, de⟩, fun v5 H5 s5 d5 => fin v5 H5 [.set c (.reg "x")] s5 d5 ⟨by decide, ⟨hc, gx⟩, trivial⟩ ⟨Nat.le_of_ble_eq_true rfl, fun _ => rfl⟩ (Nat.le_of_ble_eq_true rfl) (Nat.le_of_ble_eq_true rfl)⟩
  · rw [decide_eq_false (show ¬ V.int kind = V.int 0 from fun z => k0 (V.int.inj z))]
    refine iteF ⟨_, rfl, rfl, _, rfl, ?_⟩
    by_cases k1 : kind = 1
    · rw [decide_eq_true (show V.int kind = V.int 1 from congrArg V.int k1)]
      exact iteT ⟨(c, d, e), ⟨rfl, rfl, ev, rfl, de⟩, fun v5 H5 s5 d5 => fin v5 H5 [.read "a" c, .ans (.reg "a")] s5 d5 ⟨by decide, ⟨ra, hc⟩, by decide, ga, trivial⟩ ⟨Nat.le_of_ble_eq_true rfl, fun _ => rfl⟩ (Nat.le_of_ble_eq_true rfl) (Nat.le_of_ble_eq_true rfl)⟩
    · rw [decide_eq_false (show ¬ V.int kind = V.int 1 from fun z => k1 (V.int.inj z))]
      refine iteF ⟨_, rfl, rfl, _, rfl, ?_⟩
      by_cases k2 : kind = 2
      · rw [decide_eq_true (show V.int kind = V.int 2 from congrArg V.int k2)]
        exact iteT ⟨(c, d, e), ⟨rfl, rfl, ev, rfl, de⟩, fun v5 H5 s5 d5 => fin v5 H5 [.read "a" c, .set c (.op "+" (.reg "a") e), .ans (.reg "a")] s5 d5 ⟨by decide, ⟨ra, hc⟩, by decide, ⟨hc, gp⟩, by decide, ga, trivial⟩ ⟨Nat.le_of_ble_eq_true rfl, fun _ => rfl⟩ (Nat.le_of_ble_eq_true rfl) (Nat.le_of_ble_eq_true rfl)⟩
      · rw [decide_eq_false (show ¬ V.int kind = V.int 2 from fun z => k2 (V.int.inj z))]
        refine iteF ⟨_, rfl, rfl, _, rfl, ?_⟩
        by_cases k3 : kind = 3
        · rw [decide_eq_true (show V.int kind = V.int 3 from congrArg V.int k3)]
          exact iteT ⟨(c, d, e), ⟨rfl, rfl, ev, rfl, de⟩, fun v5 H5 s5 d5 => fin v5 H5 [.read "a" c, .set d (.reg "a"), .set c (.reg "x")] s5 d5 ⟨by decide, ⟨ra, hc⟩, by decide, ⟨hd, ga⟩, by decide, ⟨hc, gx⟩, trivial⟩ ⟨Nat.le_of_ble_eq_true rfl, fun _ => rfl⟩ (Nat.le_of_ble_eq_true rfl) (Nat.le_of_ble_eq_true rfl)⟩
        · rw [decide_eq_false (show ¬ V.int kind = V.int 3 from fun z => k3 (V.int.inj z))]
          refine iteF ⟨_, rfl, rfl, _, rfl, ?_⟩
          by_cases k4 : kind = 4
          · rw [decide_eq_true (show V.int kind = V.int 4 from congrArg V.int k4)]
            exact iteT ⟨(c, d, e), ⟨rfl, rfl, ev, rfl, de⟩, fun v5 H5 s5 d5 => fin v5 H5 [.set c e] s5 d5 ⟨by decide, ⟨hc, ge⟩, trivial⟩ ⟨Nat.le_of_ble_eq_true rfl, fun _ => rfl⟩ (Nat.le_of_ble_eq_true rfl) (Nat.le_of_ble_eq_true rfl)⟩
          · rw [decide_eq_false (show ¬ V.int kind = V.int 4 from fun z => k4 (V.int.inj z))]
            refine iteF ⟨_, rfl, rfl, _, rfl, ?_⟩
            by_cases k5 : kind = 5
            · rw [decide_eq_true (show V.int kind = V.int 5 from congrArg V.int k5)]
              exact iteT ⟨(c, d, e), ⟨rfl, rfl, ev, rfl, de⟩, fun v5 H5 s5 d5 => fin v5 H5 [.swap "b" c e (.reg "x"), .ans (.reg "b")] s5 d5 ⟨by decide, ⟨rb, hc, ge, gx⟩, by decide, gb, trivial⟩ ⟨Nat.le_of_ble_eq_true rfl, fun _ => rfl⟩ (Nat.le_of_ble_eq_true rfl) (Nat.le_of_ble_eq_true rfl)⟩
            · rw [decide_eq_false (show ¬ V.int kind = V.int 5 from fun z => k5 (V.int.inj z))]
              refine iteF ⟨_, rfl, rfl, _, rfl, ?_⟩
              by_cases k6 : kind = 6
              · rw [decide_eq_true (show V.int kind = V.int 6 from congrArg V.int k6)]
                exact iteT ⟨(c, d, e), ⟨rfl, rfl, ev, rfl, de⟩, fun v5 H5 s5 d5 => fin v5 H5 [.read "a" c, .read "b" d, .iff (.op "=" (.reg "a") (.reg "b")) [.ans e] [.set c (.reg "b")]] s5 d5 ⟨by decide, ⟨ra, hc⟩, by decide, ⟨rb, hd⟩, by decide, ⟨gq, ⟨by decide, ge, trivial⟩, ⟨by decide, ⟨hc, gb⟩, trivial⟩⟩, trivial⟩ ⟨Nat.le_of_ble_eq_true rfl, fun _ => rfl⟩ (Nat.le_of_ble_eq_true rfl) (Nat.le_of_ble_eq_true rfl)⟩
              · rw [decide_eq_false (show ¬ V.int kind = V.int 6 from fun z => k6 (V.int.inj z))]
                refine iteF ⟨_, rfl, rfl, _, rfl, ?_⟩
                by_cases k7 : kind = 7
                · rw [decide_eq_true (show V.int kind = V.int 7 from congrArg V.int k7)]
                  exact iteT ⟨(c, d, e), ⟨rfl, rfl, ev, rfl, de⟩, fun v5 H5 s5 d5 => fin v5 H5 [.read "a" c, .read "b" d, .set c (.reg "b"), .set d (.reg "a")] s5 d5 ⟨by decide, ⟨ra, hc⟩, by decide, ⟨rb, hd⟩, by decide, ⟨hc, gb⟩, by decide, ⟨hd, ga⟩, trivial⟩ ⟨Nat.le_of_ble_eq_true rfl, fun _ => rfl⟩ (Nat.le_of_ble_eq_true rfl) (Nat.le_of_ble_eq_true rfl)⟩
                · rw [decide_eq_false (show ¬ V.int kind = V.int 7 from fun z => k7 (V.int.inj z))]
                  refine iteF ⟨_, rfl, rfl, _, rfl, ?_⟩
                  by_cases k8 : kind = 8
                  · rw [decide_eq_true (show V.int kind = V.int 8 from congrArg V.int k8)]
                    refine iteT ⟨_, rfl, _, _, rfl, rfl, _, rfl, ?_⟩
                    by_cases c0 : (0 : Int) < coins
                    · rw [decide_eq_true c0]
                      refine iteT ⟨(), trivial, fun sv H5 s5 d5 => ?_⟩
                      exact ⟨c, ⟨rfl, sv, rfl, d5⟩, fun v6 H6 s6 d6 => fin v6 H6 [.read "a" c, stopR, .coin "b", .set c (.op "+" (.reg "b") (.num 1)), .ans (.num 1)] (s5.trans s6) d6 ⟨by decide, ⟨ra, hc⟩, by decide, ⟨ga, ⟨by decide, g0, trivial⟩, trivial⟩, by decide, ⟨rb, rfl⟩, by decide, ⟨hc, gb1⟩, by decide, g1, trivial⟩ ⟨Nat.le_of_ble_eq_true rfl, fun z => absurd z (by omega)⟩ (Nat.le_of_ble_eq_true rfl) (Nat.le_of_ble_eq_true rfl)⟩
                    · rw [decide_eq_false c0]
                      refine iteF ⟨_, rfl, rfl, _, rfl, ?_⟩
                      rw [decide_eq_false (show ¬ V.int kind = V.int 9 from fun z => by have := V.int.inj z; omega)]
                      refine iteF ?_
                      refine ⟨_, rfl, _, rfl, _, rfl, (by show 1 ≤ sizeLine; decide), fun b nb => ?_⟩
                      have sb := same_new (o := .lst [.int coins]) nb
                      have hb : upd H4 b (.lst [.int coins]) b = some (.lst [.int coins]) := upd_same
                      refine ⟨p, b, many, 2, 0, coins, rfl, p4.same sb, hb, hcoins.1, pool_ne p4 nb, by decide, hmany, by decide, fun v rs H' b5 p5 _ kk dd ok cl mx => ?_⟩
                      have nb0 : ∀ a o, H4 a = some o → a ≠ b := fun a o h => ne_of_none h nb
                      exact q v rs H' (b14.trans fun a o h e => b5 a o h (nb0 _ _ e) (sb _ _ e)) p5 dd (ok 1 (by decide)) ⟨by omega, fun z => by omega⟩ (Nat.le_trans cl (by decide)) (Nat.le_trans mx (by decide))
                  · rw [decide_eq_false (show ¬ V.int kind = V.int 8 from fun z => k8 (V.int.inj z))]
                    refine iteF ⟨_, rfl, rfl, _, rfl, ?_⟩
                    by_cases k9 : kind = 9
                    · rw [decide_eq_true (show V.int kind = V.int 9 from congrArg V.int k9)]
                      refine iteT ⟨_, rfl, _, _, rfl, rfl, _, rfl, ?_⟩
                      by_cases c0 : (0 : Int) < coins
                      · rw [decide_eq_true c0]
                        exact iteT ⟨(c, d, e), ⟨rfl, rfl, ev, rfl, de⟩, fun v5 H5 s5 d5 => fin v5 H5 [.coin "b", .set c (.op "+" (.reg "b") (.reg "x"))] s5 d5 ⟨by decide, ⟨rb, rfl⟩, by decide, ⟨hc, gbx⟩, trivial⟩ ⟨Nat.le_of_ble_eq_true rfl, fun z => absurd z (by omega)⟩ (Nat.le_of_ble_eq_true rfl) (Nat.le_of_ble_eq_true rfl)⟩
                      · rw [decide_eq_false c0]
                        refine iteF ?_
                        refine ⟨_, rfl, _, rfl, _, rfl, (by show 1 ≤ sizeLine; decide), fun b nb => ?_⟩
                        have sb := same_new (o := .lst [.int coins]) nb
                        have hb : upd H4 b (.lst [.int coins]) b = some (.lst [.int coins]) := upd_same
                        refine ⟨p, b, many, 2, 0, coins, rfl, p4.same sb, hb, hcoins.1, pool_ne p4 nb, by decide, hmany, by decide, fun v rs H' b5 p5 _ kk dd ok cl mx => ?_⟩
                        have nb0 : ∀ a o, H4 a = some o → a ≠ b := fun a o h => ne_of_none h nb
                        exact q v rs H' (b14.trans fun a o h e => b5 a o h (nb0 _ _ e) (sb _ _ e)) p5 dd (ok 1 (by decide)) ⟨by omega, fun z => by omega⟩ (Nat.le_trans cl (by decide)) (Nat.le_trans mx (by decide))
                    · rw [decide_eq_false (show ¬ V.int kind = V.int 9 from fun z => k9 (V.int.inj z))]
                      refine iteF ?_
                      refine ⟨_, rfl, _, rfl, _, rfl, (by show 1 ≤ sizeLine; decide), fun b nb => ?_⟩
                      have sb := same_new (o := .lst [.int coins]) nb
                      have hb : upd H4 b (.lst [.int coins]) b = some (.lst [.int coins]) := upd_same
                      refine ⟨p, b, many, 2, 0, coins, rfl, p4.same sb, hb, hcoins.1, pool_ne p4 nb, by decide, hmany, by decide, fun v rs H' b5 p5 _ kk dd ok cl mx => ?_⟩
                      have nb0 : ∀ a o, H4 a = some o → a ≠ b := fun a o h => ne_of_none h nb
                      exact q v rs H' (b14.trans fun a o h e => b5 a o h (nb0 _ _ e) (sb _ _ e)) p5 dd (ok 1 (by decide)) ⟨by omega, fun z => by omega⟩ (Nat.le_trans cl (by decide)) (Nat.le_trans mx (by decide))
end

end M

set_option Elab.async false
set_option linter.all false
set_option maxRecDepth 100000
set_option maxHeartbeats 2000000
namespace M
open PySem PySem.Spec PyProof.Rows L2

/-! ### deeds that are drawn -/
theorem joinL_nil : ∀ ps : List (List Nat), TL.joinL [] ps = ps.flatten
  | [] => rfl
  | [p] => by show p = p ++ []; rw [List.append_nil]
  | p :: q :: r => by
    show p ++ ([] ++ TL.joinL [] (q :: r)) = p ++ (q :: r).flatten
    rw [List.nil_append, joinL_nil (q :: r)]
/-- texts of one letter each, joined -/
theorem join_letters {ss : List Str} (h : ∀ s ∈ ss, ∃ c, s = ⟨#[c]⟩ ∧ 97 ≤ c ∧ c ≤ 122) : (Txt.join ("" : Str) ss).cps.toList.length = ss.length ∧ ∀ c ∈ (Txt.join ("" : Str) ss).cps.toList, 97 ≤ c ∧ c ≤ 122 := by
  have e : (Txt.join ("" : Str) ss).cps.toList = (ss.map TL.tl).flatten := by
    have := TL.tl_join ("" : Str) ss
    rw [← TL.join_eq] at this
    rw [← joinL_nil]
    exact this
  rw [e]
  clear e
  induction ss with
  | nil => exact ⟨rfl, fun c hc => by cases hc⟩
  | cons s r ih =>
    obtain ⟨c, rfl, h1, h2⟩ := h s List.mem_cons_self
    obtain ⟨i1, i2⟩ := ih fun x hx => h x (List.mem_cons_of_mem _ hx)
    have et : TL.tl (⟨#[c]⟩ : Str) = [c] := rfl
    rw [List.map_cons, List.flatten_cons, et]
    refine ⟨by rw [List.length_append, i1]; simp; omega, fun d hd => ?_⟩
    rcases List.mem_append.mp hd with hd | hd
    · rw [List.mem_singleton.mp hd]
      exact ⟨h1, h2⟩
    · exact i2 d hd
/-- the last letter tells the place -/
def EndsL (s : Str) (j : Nat) : Prop := ∃ (p : List Nat) (c : Nat), s.cps.toList = p ++ [c] ∧ 97 ≤ c ∧ ((c : Int) - 97) % 4 = (3 * (j : Int) + 1) % 4
theorem EndsL.ne {s t : Str} {i j : Nat} (h : EndsL s i) (k : EndsL t j) (hi : i < 4) (hj : j < 4) (n : i ≠ j) : s ≠ t := fun e => by
  obtain ⟨p, c, h1, _, h2⟩ := h
  obtain ⟨q, d, k1, _, k2⟩ := k
  rw [e, k1] at h1
  have : d = c := by
    have := congrArg List.getLast? h1
    rw [List.getLast?_append, List.getLast?_append] at this
    exact Option.some.inj this
  subst this
  omega
theorem str_len (s : Str) : s.length = s.cps.toList.length := by rw [Array.length_toList]; rfl
section
variable {P : Program} {w : World} {K : PySem.W.Frag} {mg : Str → Option Value} {base : Heap}
theorem deeds_noL (ds : List (Str × Int × List Row)) : ∀ d ∈ ds.map deedD, NoL d := fun d h => by
  obtain ⟨c, _, rfl⟩ := List.mem_map.mp h
  exact deed_noL c
theorem pool_nl {H : Hp} {p l : Addr} (h : PoolAt H p) (nb : H l = none) : l ≠ p := fun e => (pool_ne h nb) e.symm
def spDeedsL (K : PySem.W.Frag) : Sp := fun vs H Q _ => ∃ (p : Addr) (many coins : Int), vs = [.ref p, .int many, .int coins] ∧ PoolAt H p ∧ (1 ≤ many ∧ many ≤ 6) ∧ (0 ≤ coins ∧ coins ≤ 4) ∧
  ∀ (l : Addr) (ys : List V) (ds : List (Str × Int × List Row)) (H' : Hp), But p H H' → PoolAt H' p → H l = none → l ≠ p → H' l = some (.lst ys) → DpAll K H' ys (ds.map deedD) → (1 ≤ ds.length ∧ ds.length ≤ 4) → (∀ d ∈ ds, DeedOk many d ∧ mxs d.2.2 ≤ 40000) → (ds.map (·.1)).Nodup → (coins = 0 → ∀ d ∈ ds, rowsCc d.2.2 = 0) → Q (.ref l) H'
end

end M

set_option Elab.async false
set_option linter.all false
set_option maxRecDepth 100000
set_option maxHeartbeats 2000000
namespace M
open PySem PySem.Spec PyProof.Rows L2

/-! ### list(zip(a, b)) of two tuples: the zip's own tuple is held by the list -/
section
variable {prog : Program} {w : World} {A : Around} {E : Value → Shared → Prop} {s : Shared} {z TI TO T i1 i2 l1 l2 : Addr} {f : Bool} {oT : Obj} {k1 k2 : Nat} {xs ys : Array Value}
/-- the two items of the next pair, the tuple that was given out being kept by somebody -/
theorem zt_go {x y : Value} {R : Value → Shared → Prop} (D : ZipApart z TI TO i1 i2 l1 l2) (hz : IsZipHeld s.heap z TI TO T f) (hT : s.heap.get? T = some oT) (hI : IsPair s.heap TI (.ref i1) (.ref i2))
    (h1 : s.heap.IsTupleIter i1 l1 k1) (h2 : s.heap.IsTupleIter i2 l2 k2) (t1 : s.heap.IsTuple l1 xs) (t2 : s.heap.IsTuple l2 ys) (hx : xs[k1]? = some x) (hy : ys[k2]? = some y)
    (k : ∀ g, IsZipHeld g z TI TO T true → g.IsTupleIter i1 l1 (k1 + 1) → g.IsTupleIter i2 l2 (k2 + 1) → IsPair g s.heap.objs.size x y → (∀ c o, c ≠ z → c ≠ i1 → c ≠ i2 → s.heap.get? c = some o → g.get? c = some o) → R (.ref s.heap.objs.size) { s with heap := g }) :
    wpAny (model prog w) A (Builtin.«zip.__next__» ⟨[.ref z], []⟩) (fun fin s' => ∃ v, fin = .done (.ret v) ∧ R v s') E s := by
  show wpAny _ _ (field (.ref z) 2 >>= _) _ _ _
  apply wpAny_bind; apply wpAny_field hz rfl (x := .bool false) rfl
  show wpAny _ _ (field (.ref z) 3 >>= _) _ _ _
  apply wpAny_bind; apply wpAny_field hz rfl (x := .ref TI) rfl
  apply wpAny_bind; apply wpAny_seqItems hI rfl
  show wpAny _ _ (Builtin.SmallTypes.ownedTupleIsFree (.ref z) >>= _) _ _ _
  apply wpAny_bind; apply wpAny_tupleHeld_zip hz hT
  intro g1 z1 b1
  simp only [Bool.false_eq_true, if_false]
  apply wpAny_bind; rw [← Array.forIn_toList]; simp only [List.forIn_cons, List.forIn_nil]
  apply wpAny_bind; apply wpAny_bind; apply wpAny_holding
  show wpAny _ _ (Builtin.SmallTypes.nextOf (.ref i1) >>= _) _ _ _
  apply wpAny_bind
  refine RZ.nextOf_tuple_item (s := { s with heap := g1 }) (h1.extBut b1.extBut D.i1z) (t1.extBut b1.extBut D.l1z) hx ?_
  intro g2 j1 b2
  apply wpAny_pure; apply wpAny_pure; apply wpAny_bind; apply wpAny_bind; apply wpAny_holding
  show wpAny _ _ (Builtin.SmallTypes.nextOf (.ref i2) >>= _) _ _ _
  apply wpAny_bind
  refine RZ.nextOf_tuple_item (s := { s with heap := g2 }) ((h2.extBut b1.extBut D.i2z).extBut b2.extBut D.i12.symm) ((t2.extBut b1.extBut D.l2z).extBut b2.extBut D.l2i1) hy ?_
  intro g3 j2 b3
  apply wpAny_pure; apply wpAny_pure; apply wpAny_pure
  show wpAny _ _ (newTuple [x, y] >>= _) _ _ _
  refine wpAny_bind (wpAny_newTuple ?_)
  have e : g3.objs.size = s.heap.objs.size := b3.1.trans (b2.1.trans b1.1)
  have zz : IsZipHeld g3 z TI TO T true := b3.extBut _ _ D.i2z.symm (b2.extBut _ _ D.i1z.symm z1)
  have kk : ∀ c o, c ≠ z → c ≠ i1 → c ≠ i2 → s.heap.get? c = some o → g3.get? c = some o := fun c o n1 n2 n3 q => b3.extBut _ _ n3 (b2.extBut _ _ n2 (b1.extBut _ _ n1 q))
  have jj := j1.extBut b3.extBut D.i12
  have pp : IsPair (g3.push { cls := .type "tuple", data := .seq #[x, y] }) g3.objs.size x y := Heap.get?_push_size _ rfl
  refine wpAny_pure ⟨_, rfl, ?_⟩
  show R (.ref g3.objs.size) _
  rw [e] at pp ⊢
  exact k _ (Heap.get?_push_of_some _ zz) (jj.at fun _ q => Heap.get?_push_of_some _ q) (j2.at fun _ q => Heap.get?_push_of_some _ q) pp fun c o n1 n2 n3 q => Heap.get?_push_of_some _ (kk c o n1 n2 n3 q)
/-- nothing more -/
theorem zt_over {R : PySem.Fin → Shared → Prop} (hh : A.handled = none) (D : ZipApart z TI TO i1 i2 l1 l2) (hz : IsZipHeld s.heap z TI TO T f) (hT : s.heap.get? T = some oT) (hI : IsPair s.heap TI (.ref i1) (.ref i2))
    (h1 : s.heap.IsTupleIter i1 l1 k1) (t1 : s.heap.IsTuple l1 xs) (hx : xs[k1]? = none)
    (k : ∀ g e, (∀ c o, c ≠ z → c ≠ i1 → s.heap.get? c = some o → g.get? c = some o) → (∃ o, g.get? e = some o ∧ o.cls = .type "StopIteration") → E (.ref e) { s with heap := g }) :
    wpAny (model prog w) A (Builtin.«zip.__next__» ⟨[.ref z], []⟩) R E s := by
  show wpAny _ _ (field (.ref z) 2 >>= _) _ _ _
  apply wpAny_bind; apply wpAny_field hz rfl (x := .bool false) rfl
  show wpAny _ _ (field (.ref z) 3 >>= _) _ _ _
  apply wpAny_bind; apply wpAny_field hz rfl (x := .ref TI) rfl
  apply wpAny_bind; apply wpAny_seqItems hI rfl
  show wpAny _ _ (Builtin.SmallTypes.ownedTupleIsFree (.ref z) >>= _) _ _ _
  apply wpAny_bind; apply wpAny_tupleHeld_zip hz hT
  intro g1 z1 b1
  simp only [Bool.false_eq_true, if_false]
  apply wpAny_bind; rw [← Array.forIn_toList]; simp only [List.forIn_cons, List.forIn_nil]
  apply wpAny_bind; apply wpAny_bind; apply wpAny_holding
  show wpAny _ _ (Builtin.SmallTypes.nextOf (.ref i1) >>= _) _ _ _
  apply wpAny_bind
  refine RZ.nextOf_tuple_end (s := { s with heap := g1 }) hh (h1.extBut b1.extBut D.i1z) (t1.extBut b1.extBut D.l1z) hx ?_
  intro g2 e b2 he
  exact k g2 e (fun c o n1 n2 q => b2 _ _ n2 (b1.extBut _ _ n1 q)) he
theorem zt_next {x y : Value} {R : Option Value → Shared → Prop} (D : ZipApart z TI TO i1 i2 l1 l2) (hz : IsZipHeld s.heap z TI TO T f) (hT : s.heap.get? T = some oT) (hI : IsPair s.heap TI (.ref i1) (.ref i2))
    (h1 : s.heap.IsTupleIter i1 l1 k1) (h2 : s.heap.IsTupleIter i2 l2 k2) (t1 : s.heap.IsTuple l1 xs) (t2 : s.heap.IsTuple l2 ys) (hx : xs[k1]? = some x) (hy : ys[k2]? = some y)
    (k : ∀ g, IsZipHeld g z TI TO T true → g.IsTupleIter i1 l1 (k1 + 1) → g.IsTupleIter i2 l2 (k2 + 1) → IsPair g s.heap.objs.size x y → (∀ c o, c ≠ z → c ≠ i1 → c ≠ i2 → s.heap.get? c = some o → g.get? c = some o) → R (some (.ref s.heap.objs.size)) { s with heap := g }) :
    wpAny (model prog w) A (pyNext (.ref z)) R E s := by
  have ty : s.TypeIs (.ref z) "zip" := ⟨_, hz, rfl⟩
  unfold pyNext
  refine wpAny_bind (wpAny_attempt (wpAny_callSpecial?_slot (name := Str.ofString "__next__") ty F.slot_zip_next (wpAny_call_entry F.slot_zip_next ty F.entry_zip_next (zt_go D hz hT hI h1 h2 t1 t2 hx hy ?_) (F.args_zip_next_1 _))))
  intro g a b c d e
  exact wpAny_pure (k g a b c d e)
theorem zt_none {R : Option Value → Shared → Prop} (hh : A.handled = none) (D : ZipApart z TI TO i1 i2 l1 l2) (hz : IsZipHeld s.heap z TI TO T f) (hT : s.heap.get? T = some oT) (hI : IsPair s.heap TI (.ref i1) (.ref i2))
    (h1 : s.heap.IsTupleIter i1 l1 k1) (t1 : s.heap.IsTuple l1 xs) (hx : xs[k1]? = none)
    (k : ∀ g, (∀ c o, c ≠ z → c ≠ i1 → s.heap.get? c = some o → g.get? c = some o) → R none { s with heap := g }) : wpAny (model prog w) A (pyNext (.ref z)) R E s := by
  have ty : s.TypeIs (.ref z) "zip" := ⟨_, hz, rfl⟩
  unfold pyNext
  refine wpAny_bind (wpAny_attempt (wpAny_callSpecial?_slot (name := Str.ofString "__next__") ty F.slot_zip_next (wpAny_call_entry F.slot_zip_next ty F.entry_zip_next (zt_over hh D hz hT hI h1 t1 hx ?_) (F.args_zip_next_1 _))))
  rintro g e b ⟨o, ho, hc⟩
  exact wpAny_bind (wpAny_isInstance (T := "StopIteration") (b := true) ⟨o, ho, hc⟩ isSubtype_stop (wpAny_pure (k g b)))
/-- the list does not ask a zip for its length -/
theorem zip_no_len : typeLookup (.type "zip") "__len__" = pure none := am_miss_of_fast (by decide +kernel)
theorem zip_no_hint : typeLookup (.type "zip") "__length_hint__" = pure none := am_miss_of_fast (by decide +kernel)
theorem zt_hint {R : Bool → Shared → Prop} (ty : s.TypeIs (.ref z) "zip") (k : R true s) : wpAny (model prog w) A (Builtin.List.listLengthHint (.ref z)) R E s := by
  unfold Builtin.List.listLengthHint
  apply wpAny_bind; refine wpAny_specialOf ty zip_no_len ?_
  show wpAny _ _ (specialOf (Value.ref z) (Str.ofString "__length_hint__") >>= _) _ _ _
  apply wpAny_bind; refine wpAny_specialOf ty zip_no_hint ?_
  exact wpAny_pure k
end

end M

set_option Elab.async false
set_option linter.all false
set_option maxRecDepth 100000
set_option maxHeartbeats 2000000
namespace M
open PySem PySem.Spec PyProof.Rows L2

/-- where the walk over the zip stands -/
def ZT (h : Heap) (z TI TO i1 i2 a b : Addr) (i : Nat) : Prop := IsPair h TI (.ref i1) (.ref i2) ∧ h.IsTupleIter i1 a i ∧ h.IsTupleIter i2 b i ∧
  ((IsZip h z TI TO .none ∧ ∃ x y, IsPair h TO x y) ∨ ∃ T f oT, IsZipHeld h z TI TO T f ∧ h.get? T = some oT ∧ T ≠ z ∧ T ≠ i1 ∧ T ≠ i2 ∧ ∃ o, h.get? TO = some o)
section
variable {X : Cx} {pins : List (Addr × Obj)} {σ : L2.St} {H : Hp} {s : Shared} {z TI TO i1 i2 a b : Addr} {A : Around} {E : Value → Shared → Prop} {xs ys : List V}
theorem ZT.at {h h' : Heap} {i : Nat} (st : ZT h z TI TO i1 i2 a b i) (k : ∀ c ∈ [z, TI, TO, i1, i2], ∀ o, h.get? c = some o → h'.get? c = some o) (ke : ∀ c o, h.get? c = some o → ∃ o, h'.get? c = some o) : ZT h' z TI TO i1 i2 a b i := by
  obtain ⟨hI, h1, h2, hz⟩ := st
  refine ⟨k TI (by simp) _ hI, h1.at fun o q => k i1 (by simp) o q, h2.at fun o q => k i2 (by simp) o q, ?_⟩
  rcases hz with ⟨hz, x, y, hO⟩ | ⟨T, f, oT, hz, hT, r1, r2, r3, oO, hO⟩
  · exact .inl ⟨k z (by simp) _ hz, x, y, k TO (by simp) _ hO⟩
  · obtain ⟨oT', hT'⟩ := ke T oT hT
    exact .inr ⟨T, f, oT', k z (by simp) _ hz, hT', r1, r2, r3, ke TO oO hO⟩
theorem ZT.there {h : Heap} {i : Nat} (st : ZT h z TI TO i1 i2 a b i) : ∀ c ∈ [z, TI, TO, i1, i2], ∃ o, h.get? c = some o := by
  obtain ⟨hI, ⟨o1, h1, _⟩, ⟨o2, h2, _⟩, hz⟩ := st
  have hz2 : (∃ o, h.get? z = some o) ∧ ∃ o, h.get? TO = some o := by
    rcases hz with ⟨hz, x, y, hO⟩ | ⟨T, f, oT, hz, hT, _, _, _, oO, hO⟩
    · exact ⟨⟨_, hz⟩, ⟨_, hO⟩⟩
    · exact ⟨⟨_, hz⟩, ⟨_, hO⟩⟩
  intro c hc
  have e : c = z ∨ c = TI ∨ c = TO ∨ c = i1 ∨ c = i2 := by simpa using hc
  rcases e with rfl | rfl | rfl | rfl | rfl
  · exact hz2.1
  · exact ⟨_, hI⟩
  · exact hz2.2
  · exact ⟨_, h1⟩
  · exact ⟨_, h2⟩
/-- one more pair -/
theorem zl_step {x y : V} {i : Nat} {R : Option Value → Shared → Prop} (I : Inv X pins σ H s) (hf : ∀ c ∈ [z, TI, TO, i1, i2], FpOk X pins H c) (D : ZipApart z TI TO i1 i2 a b) (st : ZT s.heap z TI TO i1 i2 a b i)
    (qx : SqT X.K H a xs) (qy : SqT X.K H b ys) (hx : xs[i]? = some x) (hy : ys[i]? = some y)
    (k : ∀ (T : Addr) (s' : Shared), H T = none → (∀ c ∈ [z, TI, TO, i1, i2], c ≠ T) → Inv X pins σ (upd H T (.tup [x, y])) s' → ZT s'.heap z TI TO i1 i2 a b (i + 1) → R (some (.ref T)) s') :
    wpAny (model X.prog X.w) A (pyNext (.ref z)) R E s := by
  obtain ⟨its, rv, p, _⟩ := I.tuple qx
  obtain ⟨its2, rv2, p2, _⟩ := I.tuple qy
  obtain ⟨u, hu, ru⟩ := rv.get hx
  obtain ⟨u2, hu2, ru2⟩ := rv2.get hy
  have lt : ∀ c ∈ [z, TI, TO, i1, i2], c < s.heap.objs.size := fun c hc => by
    obtain ⟨o, e⟩ := st.there c hc
    exact Heap.lt_size e
  have ne : ∀ c ∈ [z, TI, TO, i1, i2], c ≠ s.heap.objs.size := fun c hc => Nat.ne_of_lt (lt c hc)
  have fin : ∀ (g : Heap) (T : Addr) (f : Bool) (oT : Obj), IsZipHeld g z TI TO T f → g.get? T = some oT → T ≠ z → T ≠ i1 → T ≠ i2 → g.IsTupleIter i1 a (i + 1) → g.IsTupleIter i2 b (i + 1) → IsPair g s.heap.objs.size u u2 →
      (∀ c o, c ∉ [z, TO, i1, i2] → s.heap.get? c = some o → g.get? c = some o) → (∃ o, g.get? TO = some o) → R (some (.ref s.heap.objs.size)) { s with heap := g } := fun g T f oT hz hT r1 r2 r3 h1 h2 hp hk hO => by
    have new : ObjOk X.prog X.w (upd H s.heap.objs.size (.tup [x, y])) g s.heap.objs.size (.tup [x, y]) := ⟨by show 2 ≤ sizeLine; decide, [u, u2], .cons ru (.cons ru2 .nil), ⟨_, hp, rfl, _, rfl⟩⟩
    have I1 : Inv X pins σ (upd H s.heap.objs.size (.tup [x, y])) { s with heap := g } :=
      I.turnedNew (t' := s.toks) (ch := [z, TI, TO, i1, i2]) (fun c o hb q => hk c o (fun m => hb (by simp at m ⊢; rcases m with e | e | e | e <;> simp [e])) q) hf (Nat.le_refl _) new
    refine k _ _ (I.hok.fresh (Nat.le_refl _)) ne I1 ⟨hk TI _ (fun m => ?_) st.1, h1, h2, .inr ⟨T, f, oT, hz, hT, r1, r2, r3, hO⟩⟩
    simp at m
    rcases m with e | e | e | e
    · exact D.TIz e
    · exact D.TITO e
    · exact D.TIi1 e
    · exact D.TIi2 e
  have nz := (ne z (by simp)).symm
  have n1 := (ne i1 (by simp)).symm
  have n2 := (ne i2 (by simp)).symm
  obtain ⟨hI, h1, h2, hz⟩ := st
  rcases hz with ⟨hz, x0, y0, hO⟩ | ⟨T, f, oT, hz, hT, r1, r2, r3, oO, hO⟩
  · refine RZ.pyNext_zipT_item D hz hI hO h1 h2 p p2 (x := u) (y := u2) (by simpa using hu) (by simpa using hu2) fun g z' O' j1 j2 hp _ hk => ?_
    exact fin g _ false _ z' hp nz n1 n2 j1 j2 hp (fun c o m q => hk c o (fun e => m (by simp [e])) (fun e => m (by simp [e])) (fun e => m (by simp [e])) (fun e => m (by simp [e])) q) ⟨_, O'⟩
  · refine zt_next D hz hT hI h1 h2 p p2 (x := u) (y := u2) (by simpa using hu) (by simpa using hu2) fun g z' j1 j2 hp hk => ?_
    exact fin g T true oT z' (hk T oT r1 r2 r3 hT) r1 r2 r3 j1 j2 hp (fun c o m q => hk c o (fun e => m (by simp [e])) (fun e => m (by simp [e])) (fun e => m (by simp [e])) q) ⟨_, hk TO _ D.TOz D.TOi1 D.TOi2 hO⟩
/-- no more -/
theorem zl_end {i : Nat} {R : Option Value → Shared → Prop} (hh : A.handled = none) (I : Inv X pins σ H s) (hf : ∀ c ∈ [z, TI, TO, i1, i2], FpOk X pins H c) (D : ZipApart z TI TO i1 i2 a b) (st : ZT s.heap z TI TO i1 i2 a b i)
    (qx : SqT X.K H a xs) (qy : SqT X.K H b ys) (hx : xs.length ≤ i) (k : ∀ s' : Shared, Inv X pins σ H s' → R none s') : wpAny (model X.prog X.w) A (pyNext (.ref z)) R E s := by
  obtain ⟨its, rv, p, _⟩ := I.tuple qx
  obtain ⟨its2, rv2, p2, _⟩ := I.tuple qy
  have l1 := rv.length
  have e : its.toArray[i]? = none := by simp; omega
  obtain ⟨hI, h1, h2, hz⟩ := st
  rcases hz with ⟨hz, x0, y0, hO⟩ | ⟨T, f, oT, hz, hT, r1, r2, r3, oO, hO⟩
  · exact RZ.pyNext_zipT_end hh D hz hI hO h1 h2 p p2 (.inl e) fun g hk => k _ (I.turnedL (t' := s.toks) (ch := [z, TI, TO, i1, i2]) (fun c o m q => hk c o (fun e => m (by simp [e])) (fun e => m (by simp [e])) (fun e => m (by simp [e])) (fun e => m (by simp [e])) q) hf)
  · exact zt_none hh D hz hT hI h1 p e fun g hk => k _ (I.turnedL (t' := s.toks) (ch := [z, TI, TO, i1, i2]) (fun c o m q => hk c o (fun e => m (by simp [e])) (fun e => m (by simp [e])) q) hf)
end

end M

set_option Elab.async false
set_option linter.all false
set_option maxRecDepth 100000
set_option maxHeartbeats 2000000
namespace M
open PySem PySem.Spec PyProof.Rows L2

/-- each item of the list is the pair of the two at its place -/
def PairsIn (H : Hp) (acc xs ys : List V) : Prop := ∀ (j : Nat) (v : V), acc[j]? = some v → ∃ (T : Addr) (x y : V), v = .ref T ∧ xs[j]? = some x ∧ ys[j]? = some y ∧ H T = some (.tup [x, y])
section
variable {X : Cx} {pins : List (Addr × Obj)} {σ : L2.St} {H H0 : Hp} {s : Shared} {z TI TO i1 i2 a b q : Addr} {A1 : Around} {xs ys l0 : List V} {Rs : Result → Shared → Prop}
theorem zl_loop (hh : A1.handled = none) (D : ZipApart z TI TO i1 i2 a b) (hl : xs.length = ys.length) (hm : xs.length ≤ 1000) (hq0 : H0 q = some (.lst l0)) (qx : SqT X.K H0 a xs) (qy : SqT X.K H0 b ys)
    (hdone : ∀ acc H s, Inv X pins σ H s → H q = some (.lst acc) → acc.length = xs.length → PairsIn H acc xs ys → But q H0 H → Rs (.ok (.ret .none)) s) :
    ∀ (m i : Nat) (acc : List V) (H : Hp) (s : Shared), m + i = xs.length → Inv X pins σ H s → (∀ c ∈ [z, TI, TO, i1, i2], FpOk X pins H c) → ZT s.heap z TI TO i1 i2 a b i → But q H0 H → H q = some (.lst acc) → acc.length = i → PairsIn H acc xs ys →
      codeAny (model X.prog X.w) A1 (.builtin "list.extend.loop" ⟨[.ref q, .ref z, .none], []⟩) Rs s := by
  intro m
  induction m with
  | zero =>
    intro i acc H s e I hf st bt hq la pr
    refine codeAny_builtin PySem.F.entry_extend_loop ?_
    rw [Around.under_plainId PySem.F.plain_extend_loop _]
    show wpAny _ A1.in1 (pyNext (.ref z) >>= _) _ _ s
    refine wpAny_bind (zl_end hh I hf D st (sqT_but (.lst hq0) bt qx) (sqT_but (.lst hq0) bt qy) (by omega) fun s' I' => ?_)
    exact wpAny_pure (hdone acc H s' I' hq (by omega) pr bt)
  | succ m ih =>
    intro i acc H s e I hf st bt hq la pr
    have hix : i < xs.length := by omega
    have hiy : i < ys.length := by omega
    have ex := List.getElem?_eq_getElem hix
    have ey := List.getElem?_eq_getElem hiy
    refine codeAny_builtin PySem.F.entry_extend_loop ?_
    rw [Around.under_plainId PySem.F.plain_extend_loop _]
    show wpAny _ A1.in1 (pyNext (.ref z) >>= _) _ _ s
    refine wpAny_bind (zl_step I hf D st (sqT_but (.lst hq0) bt qx) (sqT_but (.lst hq0) bt qy) ex ey fun T s' hT hne I' st' => ?_)
    have nqT : q ≠ T := ne_of_none hq hT
    have hq' : upd H T (.tup [xs[i], ys[i]]) q = some (.lst acc) := by rw [upd_ne nqT]; exact hq
    have w1 : Same H (upd H T (.tup [xs[i], ys[i]])) := same_new hT
    have e1 : upd H T (.tup [xs[i], ys[i]]) T = some (.tup [xs[i], ys[i]]) := upd_same
    have hf1 : ∀ c ∈ [z, TI, TO, i1, i2], FpOk X pins (upd H T (.tup [xs[i], ys[i]])) c := fun c hc => ⟨by rw [upd_ne (hne c hc)]; exact (hf c hc).1, (hf c hc).2⟩
    have ncq : ∀ c ∈ [z, TI, TO, i1, i2], c ≠ q := fun c hc w => by
      have := (hf c hc).1
      rw [w, hq] at this
      cases this
    show wpAny _ A1.in1 (updateSeq q (·.push (.ref T)) >>= _) _ _ _
    obtain ⟨zz, its, n, r2, hl', e2⟩ := I'.lstM hq'
    refine wpAny_bind (wpAny_updateSeq e2 rfl (wpAny_pure ⟨plainId_quiet PySem.F.plain_extend_loop _, ?_⟩) (by rw [List.size_toArray, sizeLine_eq]; omega) (by show (its.toArray.push (Value.ref T)).size ≤ sizeLine + 1; rw [Array.size_push, List.size_toArray, sizeLine_eq]; omega))
    have bb : But q (upd H T (.tup [xs[i], ys[i]])) (upd (upd H T (.tup [xs[i], ys[i]])) q (.lst (acc ++ [.ref T]))) := But.upd
    refine ih (i + 1) (acc ++ [.ref T]) _ _ (by omega) (I'.lset (ys := acc ++ [.ref T]) (its' := its ++ [.ref T]) (t' := s'.toks) hq' e2 (by simp) (r2.append (.cons (show L2.RelV (.ref T) (.ref T) from rfl) .nil)) (by rw [List.length_append, sizeLine_eq]; simp; omega)) (fun c hc => ⟨by rw [upd_ne (ncq c hc)]; exact (hf1 c hc).1, (hf1 c hc).2⟩) (st'.at (fun c hc o w => (Heap.get?_update_other _ _ (Ne.symm (ncq c hc))).trans w) fun c o w => ?_)
      (fun b o nb w => bb _ _ nb (w1 _ _ (bt _ _ nb w))) upd_same (by simp [la]) fun j v hj => ?_
    · by_cases w' : c = q
      · exact ⟨_, by rw [w']; exact Heap.get?_update_self _ e2 rfl⟩
      · exact ⟨o, (Heap.get?_update_other _ _ (Ne.symm w')).trans w⟩
    · rcases Nat.lt_trichotomy j acc.length with h1 | h1 | h1
      · rw [List.getElem?_append_left h1] at hj
        obtain ⟨T', x, y, ev, g1, g2, g3⟩ := pr j v hj
        exact ⟨T', x, y, ev, g1, g2, bb _ _ (ne_ho (w1 _ _ g3) hq' fun w => nomatch w) (w1 _ _ g3)⟩
      · subst h1
        have : V.ref T = v := by simpa using hj
        refine ⟨T, xs[i], ys[i], this.symm, by rw [la]; exact ex, by rw [la]; exact ey, bb _ _ (Ne.symm nqT) e1⟩
      · rw [List.getElem?_eq_none (by rw [List.length_append, List.length_singleton]; omega)] at hj
        cases hj
theorem zl_extend (hh : A1.handled = none) (D : ZipApart z TI TO i1 i2 a b) (hl : xs.length = ys.length) (hm : xs.length ≤ 1000) (I : Inv X pins σ H s) (hq : H q = some (.lst [])) (qx : SqT X.K H a xs) (qy : SqT X.K H b ys)
    (hf : ∀ c ∈ [z, TI, TO, i1, i2], FpOk X pins H c) (hz : IsZip s.heap z TI TO .none) (st : ZT s.heap z TI TO i1 i2 a b 0)
    (hdone : ∀ acc H' s, Inv X pins σ H' s → H' q = some (.lst acc) → acc.length = xs.length → PairsIn H' acc xs ys → But q H H' → Rs (.ok (.ret .none)) s) :
    wpAny (model X.prog X.w) A1.in1 (Builtin.List.listExtendWith (.ref q) (.ref z) .none)
      (fun fin s' => match fin with | .done f => Rs (.ok f) s' | .again c' => c'.quiet = true ∧ codeAny (model X.prog X.w) A1 c' Rs s') (fun e s' => Rs (.error e) s') s := by
  have ncq : ∀ c ∈ [z, TI, TO, i1, i2], c ≠ q := fun c hc w => by
    have := (hf c hc).1
    rw [w, hq] at this
    cases this
  have ty : s.TypeIs (.ref z) "zip" := ⟨_, hz, rfl⟩
  have g1 : Builtin.List.listSameRef (.ref q) (.ref z) = false := by simp [Builtin.List.listSameRef, (ncq z (by simp)).symm]
  have g2 : (Value.type "zip" == Value.type "list") = false := by decide
  have g3 : (Value.type "zip" == Value.type "tuple") = false := by decide
  unfold Builtin.List.listExtendWith
  apply wpAny_bind; apply wpAny_typeOf ty
  simp only [g1, g2, g3, Bool.or_false, Bool.false_eq_true, if_false]
  apply wpAny_bind; apply wpAny_pyIter_zip hz
  apply wpAny_bind; apply wpAny_holding; apply zt_hint ty
  have go := zl_loop (Rs := Rs) hh D hl hm hq qx qy hdone xs.length 0 [] H
  have p0 : PairsIn H [] xs ys := fun j v h => by simp at h
  refine wpAny_ite_split (fun _ => ?_) (fun _ => wpAny_pure ⟨plainId_quiet PySem.F.plain_extend_loop _, go s (by omega) I hf st (fun _ _ _ e => e) hq rfl p0⟩)
  apply wpAny_bind; apply wpAny_rule; apply wpAny_bind
  show wpAny _ _ (updateSeq q (·.push .none) >>= fun _ => updateSeq q (·.pop)) _ _ _
  obtain ⟨_, its, n, r3, _, e3⟩ := I.lstM hq
  cases r3
  refine wpAny_bind (wpAny_updateSeq e3 rfl ?_)
  have I2 := I.lset (f := (·.push Value.none)) (its' := [Value.none]) (ys := [.non]) (t' := s.toks) hq e3 (by simp) (.cons rfl .nil) (by rw [List.length_singleton, sizeLine_eq]; decide)
  obtain ⟨_, its4, k4, r4, _, e4⟩ := I2.lstM upd_same
  obtain ⟨u4, rfl, ru4⟩ := r4.one
  refine wpAny_updateSeq e4 rfl ?_ (by show 1 ≤ sizeLine; rw [sizeLine_eq]; decide) (by show 0 ≤ sizeLine + 1; exact Nat.zero_le _)
  have I3 := I2.lset (f := (·.pop)) (its := [u4]) (its' := []) (ys := []) (t' := s.toks) upd_same e4 (by rfl) .nil (Nat.zero_le _)
  rw [upd_upd] at I3
  have hH : upd H q (.lst []) = H := by
    funext c
    by_cases hb : c = q
    · rw [hb, upd_same, hq]
    · rw [upd_ne hb]
  rw [hH] at I3
  refine wpAny_pure ⟨plainId_quiet PySem.F.plain_extend_loop _, go _ (by omega) I3 hf (st.at (fun c hc o w => ?_) fun c o w => ?_) (fun _ _ _ e => e) hq rfl p0⟩
  · exact (Heap.get?_update_other _ _ (Ne.symm (ncq c hc))).trans ((Heap.get?_update_other _ _ (Ne.symm (ncq c hc))).trans w)
  · by_cases w' : c = q
    · rw [w']
      exact ⟨_, Heap.get?_update_self _ e4 rfl⟩
    · exact ⟨o, (Heap.get?_update_other _ _ (Ne.symm w')).trans ((Heap.get?_update_other _ _ (Ne.symm w')).trans w)⟩
end

end M

set_option Elab.async false
set_option linter.all false
set_option maxRecDepth 100000
set_option maxHeartbeats 2000000
namespace M
open PySem PySem.Spec PyProof.Rows L2

section
variable {X : Cx} {pins : List (Addr × Obj)} {σ : L2.St} {H : Hp} {s : Shared} {z TI TO i1 i2 a b : Addr} {xs ys : List V}
theorem zl_call {Q : VK} (hc : X.calm = true) (D : ZipApart z TI TO i1 i2 a b) (hl : xs.length = ys.length) (hm : xs.length ≤ 1000) (I : Inv X pins σ H s) (qx : SqT X.K H a xs) (qy : SqT X.K H b ys)
    (hf : ∀ c ∈ [z, TI, TO, i1, i2], FpOk X pins H c) (hz : IsZip s.heap z TI TO .none) (st : ZT s.heap z TI TO i1 i2 a b 0)
    (k : ∀ (l : Addr) (acc : List V) (H' : Hp), H l = none → Same H H' → H' l = some (.lst acc) → acc.length = xs.length → PairsIn H' acc xs ys → Q (.ref l) H') :
    wpAny (model X.prog X.w) X.A (call (.type "list") [.ref z]) (EP X pins σ Q) X.xe s := by
  refine callType_codes (Q₁ := fun obj s₁ => obj = .ref s.heap.objs.size ∧ s₁ = { s with heap := s.heap.push { cls := .type "list", data := .seq #[] } }) PySem.F.called_list (PySem.F.typeCall_list_1 _) PySem.F.entry_list_init (code_list_new _ ⟨rfl, rfl⟩) fun obj s₁ h₁ => ?_
  obtain ⟨rfl, rfl⟩ := h₁
  have hS : (s.heap.push { cls := .type "list", data := .seq #[] }).get? s.heap.objs.size = some { cls := .type "list", data := .seq #[] } := Heap.get?_push_size _ rfl
  have fr : H s.heap.objs.size = none := I.hok.fresh (Nat.le_refl _)
  have lt : ∀ c ∈ [z, TI, TO, i1, i2], c ≠ s.heap.objs.size := fun c hc => by
    obtain ⟨o, e⟩ := st.there c hc
    exact Nat.ne_of_lt (Heap.lt_size e)
  have I1 : Inv X pins σ (upd H s.heap.objs.size (.lst [])) { s with heap := s.heap.push { cls := .type "list", data := .seq #[] } } := I.lnew (its := []) (t' := s.toks) .nil (Nat.zero_le _)
  have w1 : Same H (upd H s.heap.objs.size (.lst [])) := same_new fr
  refine ⟨⟨_, hS, rfl⟩, PySem.F.args_list_init_2 _ _, ?_⟩
  show wpAny _ _ (do let old ← Builtin.List.listItems (.ref s.heap.objs.size); Builtin.List.listUpdate (.ref s.heap.objs.size) (fun _ => #[]); letGo old.toList.reverse; Builtin.List.listExtendWith (.ref s.heap.objs.size) (.ref z) .none) _ _ _
  apply wpAny_bind; unfold Builtin.List.listItems
  refine wpAny_bind (wpAny_seqItems hS rfl (wpAny_pure ?_))
  show wpAny _ _ (updateSeq s.heap.objs.size (fun _ => #[]) >>= fun _ => letGo (#[] : Array Value).toList.reverse >>= fun _ => Builtin.List.listExtendWith (.ref s.heap.objs.size) (.ref z) .none) _ _ _
  refine wpAny_bind (wpAny_updateSeq hS rfl ?_)
  have I2 := I1.lset (f := fun _ => #[]) (its := []) (its' := []) (ys := []) (t' := s.toks) upd_same hS rfl .nil (Nat.zero_le _)
  rw [upd_upd] at I2
  refine wpAny_bind (wpAny_letGo ?_)
  have oth : ∀ c, c ≠ s.heap.objs.size → ∀ o, s.heap.get? c = some o → ((s.heap.push { cls := .type "list", data := .seq #[] }).update s.heap.objs.size (Obj.mapSeq (fun _ => (#[] : Array Value)))).get? c = some o := fun c hc o e => (Heap.get?_update_other _ _ (Ne.symm hc)).trans (Heap.get?_push_of_some _ e)
  refine zl_extend (A1 := X.A.in1) (Rs := wants (fun r s₂ => r = .none ∧ EP X pins σ Q (.ref s.heap.objs.size) s₂) X.xe) (show X.A.handled = none from I.ok.hd hc) D hl hm I2 upd_same (same_t w1 qx) (same_t w1 qy)
    (fun c hc => ⟨by rw [upd_ne (lt c hc)]; exact (hf c hc).1, (hf c hc).2⟩) (oth z (lt z (by simp)) _ hz) (st.at (fun c hc o e => oth c (lt c hc) o e) fun c o e => ⟨o, oth c (Nat.ne_of_lt (Heap.lt_size e)) o e⟩) (fun acc H' s' I' hq la pr bt => ?_)
  exact ⟨rfl, .ref s.heap.objs.size, H', I', rfl, k _ acc H' fr (fun b o e => bt _ _ (ne_of_none e fr) (w1 _ _ e)) hq la pr⟩
/-- list(zip(x, y)) of two tuples of one length -/
def tZipL (K : PySem.W.Frag) (ta : TA) : TE := fun σ H Q => ta σ H fun vs H1 => ∃ (a b : Addr) (xs ys : List V), vs = [.ref a, .ref b] ∧ SqT K H1 a xs ∧ SqT K H1 b ys ∧ xs.length = ys.length ∧ xs.length ≤ 1000 ∧
  ∀ (l : Addr) (acc : List V) (H2 : Hp), H1 l = none → Same H1 H2 → H2 l = some (.lst acc) → acc.length = xs.length → PairsIn H2 acc xs ys → Q (.ref l) H2
theorem pe_lstZip {e e2 : Expr} {ta : TA} {p pos p2 pos2 : Pos} (hc : X.calm = true) (hgl : Gl X "list") (hml : X.mg "list" = none) (hg : Gl X "zip") (hm : X.mg "zip" = none) (ha : PA X [e, e2] ta)
    (hs : starEach [e, e2] X.env = (false, eval e X.env) :: starEach [e2] X.env := by rfl) (hpl : (backTo pos2 (starEach [e2] X.env)).any (·.1) = false := by rfl)
    (hs2 : starEach [.Call (.Name "zip" p2) [e, e2] [] pos2] X.env = (false, eval (.Call (.Name "zip" p2) [e, e2] [] pos2) X.env) :: starEach [] X.env := by rfl) (hpl2 : (backTo pos (starEach [] X.env)).any (·.1) = false := by rfl) :
    PE X (.Call (.Name "list" p) [.Call (.Name "zip" p2) [e, e2] [] pos2] [] pos) (tZipL X.K ta) := by
  refine ⟨fun pins s σ H Q I h => ?_⟩
  refine wpAny_Call_Name_kw (ld_blt I hgl hml boot_list ?_ (by decide) (by decide))
  refine PyProof.Rows.callWith_type1 ?_ hs2 hpl2
  rw [hs2]
  show wpAny _ _ (spliced ((false, eval (.Call (.Name "zip" p2) [e, e2] [] pos2) X.env) :: backTo pos (starEach [] X.env))) _ _ s
  refine Calls.spliced_cons ?_
  refine wpAny_Call_Name_kw (ld_blt I hg hm PyProof.Rows.boot_zip ?_ (by decide) (by decide))
  refine PyProof.Rows.callWith_type1 (thn (ha.run pos2 pins s σ H _ I h) fun us s1 ⟨vs, H1, I1, r1, q1⟩ => ?_) hs hpl
  obtain ⟨a, b, xs, ys, rfl, qx, qy, hl, hm', k⟩ := q1
  obtain ⟨its, rv, t1, _⟩ := I1.tuple qx
  obtain ⟨its2, rv2, t2, _⟩ := I1.tuple qy
  cases r1 with
  | cons r rr =>
    cases rr with
    | cons r' rr =>
      cases rr
      cases r
      cases r'
      refine RZ.call_zipT t1 t2 fun g hz hTI hTO h1 h2 hsz hk => Calls.spliced_nil ?_
      have I2 : Inv X pins σ H1 { s1 with heap := g } := I1.kept (t' := s1.toks) hk
      obtain ⟨o1, ho1, _⟩ := id t1
      obtain ⟨o2, ho2, _⟩ := id t2
      refine zl_call hc (PySem.W.ktu_apart s1.heap.objs.size a b (Heap.lt_size ho1) (Heap.lt_size ho2)) hl hm' I2 qx qy (fun c hcm => ?_) hz ⟨hTI, h1, h2, .inl ⟨hz, _, _, hTO⟩⟩ k
      have hle : s1.heap.objs.size ≤ c := by
        have e' : c = s1.heap.objs.size + 4 ∨ c = s1.heap.objs.size + 2 ∨ c = s1.heap.objs.size + 3 ∨ c = s1.heap.objs.size ∨ c = s1.heap.objs.size + 1 := by simpa using hcm
        rcases e' with w | w | w | w | w <;> rw [w]
        · exact Nat.le_add_right _ _
        · exact Nat.le_add_right _ _
        · exact Nat.le_add_right _ _
        · exact Nat.le_refl _
        · exact Nat.le_add_right _ _
      exact I1.fpOk hle (I1.hok.fresh hle)
end

end M

set_option Elab.async false
set_option linter.all false
set_option maxRecDepth 100000
set_option maxHeartbeats 2000000
namespace M
open PySem PySem.Spec PyProof.Rows L2

/-- the cells of a begun vault -/
def begunC (v : Vlt) (hs : List Int) : List (Int × Int) := (v.cells.map (·.1)).zip hs
theorem begun_good {v : Vlt} {hs : List Int} (g : VGood v) (so : StateOk (v.cells.map (·.1)) hs) : VGood ⟨begunC v hs, v.deeds⟩ := by
  have l : (begunC v hs).length = v.cells.length := by
    have := so.1
    rw [List.length_map] at this
    unfold begunC
    rw [List.length_zip, List.length_map]
    omega
  refine ⟨by show 1 ≤ (begunC v hs).length; rw [l]; exact g.c0, by show (begunC v hs).length ≤ 6; rw [l]; exact g.c1, fun c hc => ?_, g.d0, g.d1, fun d hd => by show DeedOk (begunC v hs).length d; rw [l]; exact g.ds d hd, g.nd⟩
  obtain ⟨i, hi, e⟩ := List.mem_iff_getElem.mp (show c ∈ begunC v hs from hc)
  have e2 : (begunC v hs)[i]? = some c := by rw [List.getElem?_eq_getElem hi, e]
  unfold begunC at e2
  rw [List.getElem?_zip_eq_some] at e2
  have st := so.2 i _ _ e2.1 e2.2
  rw [List.getElem?_map] at e2
  obtain ⟨c0, h0, h1⟩ := Option.map_eq_some_iff.mp e2.1
  have ok := g.cs c0 (List.mem_of_getElem? h0)
  rw [← h1] at st
  exact ⟨by rw [← h1]; exact ok.1, by rw [← h1]; exact ok.2.1, st.1, by rw [← h1]; exact st.2⟩
theorem dps_of {K : PySem.W.Frag} {H : Hp} : ∀ {vs : List V} {ds : List PyData}, vs.length = ds.length → (∀ (i : Nat) (v : V) (d : PyData), vs[i]? = some v → ds[i]? = some d → Dp K H v d) → DpAll K H vs ds
  | [], [], _, _ => .nil
  | v :: vs, d :: ds, l, h => .cons (h 0 v d rfl rfl) (dps_of (by simpa using l) fun i v' d' hv hd => h (i + 1) v' d' hv hd)
  | [], _ :: _, l, _ => by simp at l
  | _ :: _, [], l, _ => by simp at l
theorem pairs_cells {K : PySem.W.Frag} {H : Hp} {acc : List V} {ss hs : List Int} (l : acc.length = ss.length) (l2 : ss.length = hs.length) (h : PairsIn H acc (ss.map V.int) (hs.map V.int)) : DpAll K H acc ((ss.zip hs).map cellD) := by
  refine dps_of (by rw [l, List.length_map, List.length_zip]; omega) fun i v d hv hd => ?_
  obtain ⟨T, x, y, rfl, g1, g2, g3⟩ := h i v hv
  rw [List.getElem?_map] at g1 g2 hd
  obtain ⟨a, ha, rfl⟩ := Option.map_eq_some_iff.mp g1
  obtain ⟨b, hb, rfl⟩ := Option.map_eq_some_iff.mp g2
  obtain ⟨c, hc, rfl⟩ := Option.map_eq_some_iff.mp hd
  have := List.getElem?_zip_eq_some.mp hc
  have e1 : c.1 = a := Option.some.inj (this.1.symm.trans ha)
  have e2 : c.2 = b := Option.some.inj (this.2.symm.trans hb)
  show Dp K H (.ref T) (.tuple [.int c.1, .int c.2])
  rw [e1, e2]
  exact .tup (.of g3) (.cons (.int _) (.cons (.int _) .nil))
section
variable {P : Program} {w : World} {K : PySem.W.Frag} {mg : Str → Option Value} {base : Heap}
def spShape (K : PySem.W.Frag) : Sp := fun vs H Q _ => ∃ (p : Addr) (v : Vlt), vs = [.ref p] ∧ VaultAt K H p v ∧ ∀ (t : Addr) (x d : V) (H' : Hp), Same H H' → H' t = some (.tup [x, d]) → Dp K H' x (.tuple (v.cells.map cellD)) → Dp K H' d (.tuple (v.deeds.map deedD)) → Q (.ref t) H'
theorem me_Vault_shape (T : Txt w K mg) : Me P w K mg base 1 (He.ga K "Vault") "shape" (spShape K) := by
  refine me_of (N := ["self"]) (ps := ["self"]) T.f_Vault_shape T.c_Vault T.m_Vault_shape ⟨rfl, rfl, rfl, by decide +kernel, rfl, by decide +kernel, by decide +kernel⟩ (fun _ _ _ _ _ _ us hl => match us, hl with | [_], _ => rfl)
    (fun vs H Q E h => by obtain ⟨p, v, rfl, hv, q⟩ := h; rfl) (fun cdv A outer s H vs Q E hr h => ?_)
  have nd : (["self"] : List Str).Nodup := by decide +kernel
  obtain ⟨p, v, rfl, hv, q⟩ := h
  obtain ⟨dx, a, d, c, b, kvs, h1, h2, h3, h4, h5⟩ := hv.ob
  refine ⟨_, pss_one (ps_ret (pe_tup (pa_cons (pe_fld (pv 0) rfl) (pa_cons (pe_fld (pv 0) rfl) pa_nil)))), ?_⟩
  refine ⟨_, rfl, p, _, _, _, _, rfl, h1, T.c_Vault, T.n_Vault_cells, vf_cells .., _, rfl, p, _, _, _, _, rfl, h1, T.c_Vault, T.n_Vault_deeds, vf_deeds .., (by show 2 ≤ sizeLine; decide), fun t nt => ?_⟩
  exact q t _ _ _ (same_new nt) upd_same (dp_same (same_new nt) h2) (dp_same (same_new nt) h3)
end

end M

set_option Elab.async false
set_option linter.all false
set_option maxRecDepth 100000
set_option maxHeartbeats 2000000
namespace M
open PySem PySem.Spec PyProof.Rows L2

/-! ### a text == something else -/
open PySem.SeqAt PySem.Calls in
theorem str_eq_declines_dict (b : Str) (u : Tok) (l : Addr) (c : Value) (es : Array DictEntry) (n : Nat) (dd : Option Addr) (sl : Array (Option Value)) :
    Meets (Builtin.«str.__eq__» ⟨[.str b u, .ref l], []⟩) (fun _ R s => s.heap.get? l = some { cls := c, dict := dd, data := .dict es n, slots := sl } ∧ R (.ok (.ret .notImplemented)) s) :=
  .of_wp fun prog w A R s h => by obtain ⟨hp, g, d, tk, os⟩ := s; obtain ⟨hl, h⟩ := h; wp_walk using AutoSeq1.wpAny_loadPart' hl, wpAny_load hl; exact ⟨_, rfl, h⟩
open PySem.SeqAt PySem.Calls in
theorem str_eq_declines_ins (b : Str) (u : Tok) (l : Addr) (c : Value) (dd : Option Addr) (sl : Array (Option Value)) :
    Meets (Builtin.«str.__eq__» ⟨[.str b u, .ref l], []⟩) (fun _ R s => s.heap.get? l = some { cls := c, dict := dd, data := .plain, slots := sl } ∧ R (.ok (.ret .notImplemented)) s) :=
  .of_wp fun prog w A R s h => by obtain ⟨hp, g, d, tk, os⟩ := s; obtain ⟨hl, h⟩ := h; wp_walk using AutoSeq1.wpAny_loadPart' hl, wpAny_load hl; exact ⟨_, rfl, h⟩
open PySem.SeqAt PySem.Calls in
theorem dict_eq_declines_str (l : Addr) (es : Array DictEntry) (n : Nat) (dd : Option Addr) (sl : Array (Option Value)) (b : Str) (u : Tok) :
    Meets (Builtin.«dict.__eq__» ⟨[.ref l, .str b u], []⟩) (fun _ R s => s.heap.get? l = some { cls := .type "dict", dict := dd, data := .dict es n, slots := sl } ∧ R (.ok (.ret .notImplemented)) s) :=
  .of_wp fun prog w A R s h => by obtain ⟨hp, g, d, tk, os⟩ := s; obtain ⟨hl, h⟩ := h; have f1 := PySem.F.sub_str_dict; wp_walk using AutoSeq1.wpAny_loadPart' hl; exact ⟨_, rfl, h⟩
section
open PySem.SeqAt PySem.Calls
variable {A : Around} {s : Shared}
theorem rc_str_dict {l : Addr} {o : Obj} {es : Array DictEntry} {n : Nat} (b : Str) (u : Tok) (ho : s.heap.get? l = some o) (hc : o.cls = .type "dict") (hd : o.data = .dict es n) (hu : A.units < cLine) : RcAt A s (.str b u) (.ref l) false := fun prog w E Q h => by
  obtain ⟨cls, dd, data, sl⟩ := o
  simp only at hc hd
  subst hc hd
  exact rc_eq_decline_or (k := false) (typeIs_str s b u) ⟨_, ho, rfl⟩ (by decide) PySem.F.sub_dict_str PySem.F.slot_str_eq PySem.F.slot_dict_eq_refl
    (fun _ hq => call_meets PySem.F.slot_str_eq (typeIs_str s b u) PySem.F.entry_str_eq (PySem.F.args_str_eq_2 _ _) (str_eq_declines_dict b u l (.type "dict") es n dd sl) ⟨ho, hq⟩)
    (fun _ hq => call_meets PySem.F.slot_dict_eq_refl ⟨_, ho, rfl⟩ PySem.F.entry_dict_eq (PySem.F.args_dict_eq_2 _ _) (dict_eq_declines_str l es n dd sl b u) ⟨ho, hq⟩)
    (fun _ hq => wpAny_of_eq (rfl : isSame (.str b u) (.ref l) = pure false) hq) (.inr hu) h
end
section
open PySem.W PySem.SeqAt PySem.Calls
variable {prog : Program} {w : World} {A : Around} {E : Value → Shared → Prop} {s : Shared} {K : PySem.W.Frag} {x f C : Addr} {ox : Obj} {od : Option Obj}
/-- a text == an instance with its own == -/
theorem rc_str_ins {b : Str} {u : Tok} {Q : Value → Shared → Prop} (hu : A.units < cLine) (X : K.In s.heap) (I : InstAt s.heap x ox C od) (ho : ox = ⟨.ref C, ox.dict, .plain, ox.slots⟩) (hsub : PySem.W.subIn K (.ref C) (.type "str") = some false)
    (hs : PySem.W.findIn K (.ref C) "__eq__" = some (some (.ref f))) (hf : PySem.W.isFn K (.ref f) = true)
    (h : wpAny (model prog w) A (call (.ref f) [.ref x, .str b u]) (PySem.W.CmpBack Q) E s) : wpAny (model prog w) A (richCompare .Eq (.str b u) (.ref x)) Q E s := by
  have ha := typeIs_str s b u
  have one : wpAny (model prog w) A (tryCompare (.ref x) "__eq__" (.str b u)) (fun r s' => ∃ v, r = some v ∧ Q v s') E s := by
    unfold tryCompare
    refine wpAny_bind (ifBound_K X I hs hf (wpAny_mono h (fun v s' hv => ?_) fun _ _ e => e))
    cases v <;> first | exact hv.elim | exact wpAny_pure ⟨_, rfl, hv⟩
  have e0 : s.heap.get? x = some { cls := .ref C, dict := ox.dict, data := .plain, slots := ox.slots } := by
    have := I.1
    rw [ho] at this
    exact this
  have h1 : Slot "str" "__eq__" "str.__eq__" := PySem.F.slot_str_eq
  have hi : cmpInfo CmpOp.Eq = (("==", "__eq__", "__eq__") : String × Str × Str) := rfl
  simp only [richCompare, hi, ha.oneThing_none]
  refine wpAny_holding ?_
  refine wpAny_bind (wpAny_cRoomFor hu ?_)
  refine wpAny_bind (wpAny_typeOf ha (wpAny_bind (I.type.here ?_)))
  have hne : (Value.type "str" != Value.ref C) = true := rfl
  simp only [hne, if_true]
  refine wpAny_bind ((looks_subIn X hsub).here ?_)
  simp only [Bool.false_eq_true, if_false, Bool.not_false, if_true]
  refine wpAny_bind (m := tryCompare (.str b u) _ (.ref x)) (wpAny_tryCompare_declines ha h1 (call_meets PySem.F.slot_str_eq ha PySem.F.entry_str_eq (PySem.F.args_str_eq_2 _ _) (str_eq_declines_ins b u x (.ref C) ox.dict ox.slots) ⟨e0, rfl, ?_⟩))
  refine wpAny_bind (wpAny_mono one (fun r s' z => ?_) fun _ _ e => e)
  obtain ⟨v, rfl, hq⟩ := z
  exact wpAny_pure hq
end
/-- what == and isinstance ask of the class x, which has its own == -/
structure Own (K : PySem.W.Frag) (x : Str) : Prop where
  ha : PySem.W.findIn K (.ref (He.ga K x)) "__class__" = some (some (.builtin "object.__class__"))
  hn : PySem.W.specialIn K (.builtin "object.__class__") "__get__" = some (some (.builtin "getset_descriptor.__get__"))
  tk : PySem.W.takesIn K (.builtin "object.__class__") = some true
  mo : PySem.W.mroIn K (He.ga K x) (.type "object") = some true
  me : PySem.W.kitOne K (.ref (He.ga K x)) (.ref (He.ga K x)) = some true
  un : ∀ k : Kd, k ≠ .obj → PySem.W.kitOne K (.type k.name) (.ref (He.ga K x)) = some false
  no : ∀ k : Kd, k ≠ .obj → PySem.W.kitOne K (.ref (He.ga K x)) (.type k.name) = some false
  su : PySem.W.subIn K (.ref (He.ga K x)) (.type "str") = some false
  eq : PySem.W.findIn K (.ref (He.ga K x)) "__eq__" = some (some (.ref (He.ma K (He.ga K x) "__eq__")))
  fn : PySem.W.isFn K (.ref (He.ma K (He.ga K x) "__eq__")) = true
  nf : PySem.W.notFirst K (He.ga K x) (.ref (He.ga K x)) = true
theorem own_ok {K : PySem.W.Frag} {x : Str} (h : ownB K x = true) : Own K x := by
  unfold ownB at h
  obtain ⟨h1, h⟩ := He.ba h
  obtain ⟨h2, h⟩ := He.ba h
  obtain ⟨h3, h⟩ := He.ba h
  obtain ⟨h4, h⟩ := He.ba h
  obtain ⟨h5, h⟩ := He.ba h
  obtain ⟨h6, h⟩ := He.ba h
  obtain ⟨h7, h⟩ := He.ba h
  obtain ⟨h8, h9⟩ := He.ba h
  have g := fun t ht => List.all_eq_true.mp h6 t ht
  refine ⟨He.eqO_ok h1, He.eqO_ok h2, of_decide_eq_true h3, of_decide_eq_true h4, of_decide_eq_true h5, fun k hk => ?_, fun k hk => ?_, of_decide_eq_true h7, He.eqO_ok (He.ba h8).1, (He.ba h8).2, h9⟩
  · cases k <;> first | exact absurd rfl hk | exact of_decide_eq_true (He.ba (g _ (by simp [Kd.name]))).1
  · cases k <;> first | exact absurd rfl hk | exact of_decide_eq_true (He.ba (g _ (by simp [Kd.name]))).2
theorem ins_spot {X : Cx} {pins : List (Addr × Obj)} {σ : L2.St} {H : Hp} {s : Shared} {a C dx : Addr} {fs : List (Str × V)} (I : Inv X pins σ H s) (ha : H a = some (.ins C dx fs)) : ∃ od, PySem.W.InstAt s.heap a (PySem.W.instObj C dx) C od := by
  obtain ⟨mA, J, _⟩ := ins_get I.hok ha
  obtain ⟨od, J, _⟩ := J.look
  exact ⟨od, J⟩
section
variable {X : Cx} {n : Nat} {x : Str} {fd : FuncData} {ps : List Str} {sp : Sp}
/-- what the own == of the class x promises -/
structure Eqs (P : Program) (w : World) (K : PySem.W.Frag) (mg : Str → Option Value) (base : Heap) (n : Nat) (x : Str) (sp : Sp) : Prop where
  o : Own K x
  ex : ∃ (fd : FuncData) (ps : List Str), FnOk P w K mg base CX0 n (He.ma K (He.ga K x) "__eq__") fd ps sp ∧ Binds K fd ps []
theorem eqs_call {pins : List (Addr × Obj)} {σ : L2.St} {H : Hp} {s : Shared} {vs : List V} {us : List Value} {Q : VK} (c : Eqs X.prog X.w X.K X.mg X.base n x sp) (hr : Room n X.A) (I : Inv X pins σ H s) (r : Vals vs us) (h : sp vs H (fun v H' => (∃ b, v = .bl b) ∧ Q v H') E0) :
    wpAny (model X.prog X.w) X.A (call (.ref (He.ma X.K (He.ga X.K x) "__eq__")) us) (PySem.W.CmpBack (EP X pins σ Q)) X.xe s := by
  obtain ⟨fd, ps, F, hb⟩ := c.ex
  have hl := F.len _ _ _ _ h
  refine wpAny_call (codeAny_mono (F.run X.A X.stack s H ⟨us, []⟩ us vs _ E0 hr I.env0 (by
    have := hb s us I.kIn (by rw [List.append_nil, ← r.length]; exact hl)
    rw [List.append_nil] at this
    exact this) r h) fun r s' hq => ?_)
  cases r with
  | error e => exact hq.elim
  | ok fl =>
    cases fl with
    | ret w =>
      obtain ⟨z, H', I', rz, ⟨b, eb⟩, q⟩ := I.after hq
      subst eb
      cases (rz : w = Value.bool b)
      exact ⟨.bl b, H', I', rfl, q⟩
    | next => exact False.elim hq
    | brk => exact False.elim hq
    | cont => exact False.elim hq
/-- == of two instances -/
theorem op_eqI (c : Eqs X.prog X.w X.K X.mg X.base n x sp) (hr : Room n X.A) : OpR X (compareOp .Eq) (fun v u H Q => ∃ (a b dx dy : Addr) (fs gs : List (Str × V)), v = .ref a ∧ u = .ref b ∧ H a = some (.ins (He.ga X.K x) dx fs) ∧ H b = some (.ins (He.ga X.K x) dy gs) ∧ sp [.ref a, .ref b] H (fun v H' => (∃ b, v = .bl b) ∧ Q v H') E0) := by
  intro pins s σ H v u va ua Q I rv ru h
  obtain ⟨a, b, dx, dy, fs, gs, rfl, rfl, ha, hb, hs⟩ := h
  cases (show va = Value.ref a from rv)
  cases (show ua = Value.ref b from ru)
  show wpAny _ _ (richCompare .Eq (.ref a) (.ref b)) _ _ _
  obtain ⟨od, J⟩ := ins_spot I ha
  obtain ⟨od', J'⟩ := ins_spot I hb
  obtain ⟨m, hF⟩ := I.fr
  exact PySem.W.cmp_K (op := .Eq) (tb := .ref (He.ga X.K x)) hr.units0 hF I.ok.mod.kin J J'.type c.o.nf c.o.eq c.o.fn (eqs_call c hr I (show Vals [V.ref a, V.ref b] [Value.ref a, Value.ref b] from .cons rfl (.cons rfl .nil)) hs)
/-- a text == data, a dict, a list of anything, an instance of x -/
def rEqS (K : PySem.W.Frag) (x : Str) (sp : Sp) : R2 := fun v u H Q => ∃ t : Str, v = .str t ∧
  ((∃ s : Str, u = .str s ∧ Q (.bl (decide (V.str t = V.str s))) H) ∨ (∃ d, Dp K H u d ∧ SeqAt.shaped d = true ∧ SeqAt.shaped (.str t) = true ∧ Q (.bl (PyData.eqv (.str t) d)) H) ∨ (∃ a kvs, u = .ref a ∧ H a = some (.dK kvs) ∧ Q (.bl false) H) ∨ (∃ a xs, u = .ref a ∧ SqL K H a xs ∧ Q (.bl false) H) ∨
   (∃ a dx fs, u = .ref a ∧ H a = some (.ins (He.ga K x) dx fs) ∧ sp [.ref a, .str t] H (fun v H' => (∃ b, v = .bl b) ∧ Q v H') E0))
theorem op_eqS (c : Eqs X.prog X.w X.K X.mg X.base n x sp) (hr : Room n X.A) : OpR X (compareOp .Eq) (rEqS X.K x sp) := by
  intro pins s σ H v u va ua Q I rv ru h
  obtain ⟨t, rfl, h⟩ := h
  obtain ⟨tk, rfl⟩ := rv
  rcases h with ⟨s2, rfl, q⟩ | ⟨d, h1, h2, h3, q⟩ | ⟨a, kvs, rfl, h1, q⟩ | ⟨a, xs, rfl, h1, q⟩ | ⟨a, dx, fs, rfl, h1, q⟩
  · exact op_eq pins s σ H (.str t) (.str s2) _ ua Q I ⟨tk, rfl⟩ ru ⟨rfl, q⟩
  · exact op_eqD hr.units pins s σ H (.str t) u _ ua Q I ⟨tk, rfl⟩ ru ⟨.str t, d, .str t, h1, h3, h2, q⟩
  · cases (show ua = Value.ref a from ru)
    obtain ⟨_, _, vs, _, o, es, ep, g1, g2, g3, _⟩ := (show ObjOk X.prog X.w H s.heap a (.dK kvs) from I.hok a _ h1)
    exact rc_str_dict t tk g1 g2.1 g3 hr.units0 X.prog X.w X.xe _ ⟨.bl false, H, I, rfl, q⟩
  · cases (show ua = Value.ref a from ru)
    obtain ⟨its, r, pl, hz⟩ := I.list h1
    exact SeqAt.RcAt.str_list t tk pl.isList hr.units0 X.prog X.w X.xe _ ⟨.bl false, H, I, rfl, q⟩
  · cases (show ua = Value.ref a from ru)
    obtain ⟨od, J⟩ := ins_spot I h1
    show wpAny _ _ (richCompare .Eq (.str t tk) (.ref a)) _ _ _
    exact rc_str_ins hr.units0 I.kIn J rfl c.o.su c.o.eq c.o.fn (eqs_call c hr I (show Vals [V.ref a, V.str t] [Value.ref a, Value.str t tk] from .cons rfl (.cons ⟨tk, rfl⟩ .nil)) q)
/-- isinstance(v, x) -/
theorem call_isO (o : Own X.K x) (cl : Cls X.K (He.ga X.K x)) : CallR X (.builtin "isinstance") (fun vs H Q => ∃ v, vs = [v, .ref (He.ga X.K x)] ∧ ((∃ a dx fs, v = .ref a ∧ H a = some (.ins (He.ga X.K x) dx fs) ∧ Q (.bl true) H) ∨ ∃ k, Of X.K H v k ∧ k ≠ .obj ∧ Q (.bl false) H)) :=
  callR_imp call_isi fun vs H Q ⟨v, e, h⟩ => by
    subst e
    rcases h with ⟨a, dx, fs, rfl, ha, q⟩ | ⟨k, hk, nk, q⟩
    · exact ⟨_, _, _, _, true, rfl, .own _, .base (.ins ha cl o.ha o.hn o.tk o.mo), o.me, q⟩
    · have ty : TyX X.K H v (.type k.name) := by
        cases hk with
        | non => exact .base .non
        | bl b => exact .base (.bl b)
        | int b => exact .base (.int b)
        | str b => exact .base (.str b)
        | list b => exact ty_sqL b
        | tuple b => exact ty_sqT b
        | dict b => exact b
        | obj b _ => exact absurd rfl nk
      exact ⟨_, _, _, _, false, rfl, .own _, ty, o.un k nk, q⟩
/-- an instance of x is of no built-in kind -/
theorem own_kd {K : PySem.W.Frag} {H : Hp} {a dx : Addr} {fs : List (Str × V)} (o : Own K x) (cl : Cls K (He.ga K x)) (h : H a = some (.ins (He.ga K x) dx fs)) : Of K H (.ref a) .obj := .obj (.base (.ins h cl o.ha o.hn o.tk o.mo)) o.no
end

end M

set_option Elab.async false
set_option linter.all false
set_option maxRecDepth 100000
set_option maxHeartbeats 2000000
namespace M
open PySem PySem.Spec PyProof.Rows L2

/-! ### data of a known size and depth -/
def atomOk : PyData → Prop
  | .str s => s.length ≤ 1000000 ∧ PyData.strOk s = true
  | .none => True
  | .bool _ => True
  | .int _ => True
  | _ => False
def fit : Nat → PyData → Prop
  | 0, d => atomOk d
  | n + 1, .list ds => ds.length ≤ 100000 ∧ ∀ d ∈ ds, fit n d
  | n + 1, .tuple ds => ds.length ≤ 100000 ∧ ∀ d ∈ ds, fit n d
  | _ + 1, d => atomOk d
theorem atom_lay : ∀ {d : PyData}, atomOk d → d.canLay0 = true ∧ d.depth = 0 ∧ PyData.eqv d d = true
  | .str s, h => ⟨by rw [PyData.canLay0]; exact h.2, by rw [PyData.depth], by simp [PyData.eqv]⟩
  | .none, _ => ⟨by rw [PyData.canLay0], by rw [PyData.depth], by rw [PyData.eqv]⟩
  | .bool _, _ => ⟨by rw [PyData.canLay0], by rw [PyData.depth], by simp [PyData.eqv]⟩
  | .int _, _ => ⟨by rw [PyData.canLay0], by rw [PyData.depth], by simp [PyData.eqv]⟩
theorem fit_lay : ∀ {n : Nat} {d : PyData}, fit n d → d.canLay0 = true ∧ d.depth ≤ n ∧ PyData.eqv d d = true := by
  intro n
  induction n with
  | zero =>
    intro d h
    obtain ⟨a, b, c⟩ := atom_lay h
    exact ⟨a, by omega, c⟩
  | succ n ih =>
    intro d h
    have z : ∀ ds : List PyData, (∀ d ∈ ds, fit n d) → PyData.canLayAll0 ds = true ∧ PyData.depthAll ds ≤ n ∧ PyData.eqvAll ds ds = true := by
      intro ds
      induction ds with
      | nil => exact fun _ => ⟨by rw [PyData.canLayAll0], by rw [PyData.depthAll]; exact Nat.zero_le _, by rw [PyData.eqvAll]⟩
      | cons d r ih2 =>
        intro h
        obtain ⟨a1, a2, a3⟩ := ih (h d List.mem_cons_self)
        obtain ⟨b1, b2, b3⟩ := ih2 fun x hx => h x (List.mem_cons_of_mem _ hx)
        exact ⟨by rw [PyData.canLayAll0, a1, b1]; rfl, by rw [PyData.depthAll]; exact Nat.max_le.mpr ⟨a2, b2⟩, by rw [PyData.eqvAll, a3, b3]; rfl⟩
    cases d with
    | list ds =>
      obtain ⟨a, b, c⟩ := z ds h.2
      exact ⟨by rw [PyData.canLay0]; exact a, by rw [PyData.depth]; omega, by rw [PyData.eqv]; exact c⟩
    | tuple ds =>
      obtain ⟨a, b, c⟩ := z ds h.2
      exact ⟨by rw [PyData.canLay0]; exact a, by rw [PyData.depth]; omega, by rw [PyData.eqv]; exact c⟩
    | dict _ => exact h.elim
    | str s =>
      obtain ⟨a, b, c⟩ := atom_lay (d := .str s) h
      exact ⟨a, by omega, c⟩
    | none =>
      obtain ⟨a, b, c⟩ := atom_lay (d := .none) h
      exact ⟨a, by omega, c⟩
    | bool y =>
      obtain ⟨a, b, c⟩ := atom_lay (d := .bool y) h
      exact ⟨a, by omega, c⟩
    | int y =>
      obtain ⟨a, b, c⟩ := atom_lay (d := .int y) h
      exact ⟨a, by omega, c⟩
theorem fit_shaped {n : Nat} {d : PyData} (hn : n ≤ 60) (h : fit n d) : SeqAt.shaped d = true := by
  obtain ⟨a, b, _⟩ := fit_lay h
  unfold SeqAt.shaped
  rw [Bool.and_eq_true]
  exact ⟨a, decide_eq_true (by omega)⟩
theorem fit_str {n : Nat} {s : Str} (h : fit n (.str s)) : s.length ≤ 1000000 ∧ PyData.strOk s = true := by
  cases n <;> exact h
theorem atom_fit : ∀ {n : Nat} {d : PyData}, atomOk d → fit n d
  | 0, _, h => h
  | _ + 1, .str _, h => h
  | _ + 1, .none, _ => trivial
  | _ + 1, .bool _, _ => trivial
  | _ + 1, .int _, _ => trivial
theorem fit_up : ∀ {n m : Nat} {d : PyData}, fit n d → n ≤ m → fit m d
  | 0, _, _, h, _ => atom_fit h
  | n + 1, 0, _, _, l => absurd l (Nat.not_succ_le_zero n)
  | n + 1, m + 1, .list ds, h, l => ⟨h.1, fun d hd => fit_up (h.2 d hd) (Nat.le_of_succ_le_succ l)⟩
  | n + 1, m + 1, .tuple ds, h, l => ⟨h.1, fun d hd => fit_up (h.2 d hd) (Nat.le_of_succ_le_succ l)⟩
  | _ + 1, _ + 1, .str _, h, _ => h
  | _ + 1, _ + 1, .none, _, _ => trivial
  | _ + 1, _ + 1, .bool _, _, _ => trivial
  | _ + 1, _ + 1, .int _, _, _ => trivial
theorem fit_i {n : Nat} {i : Int} : fit n (.int i) := atom_fit trivial
theorem mem_fit {l : List Str} {n : Nat} {s : Str} (h : s ∈ l) (k : l.all (fun s => decide (s.length ≤ 1000000) && PyData.strOk s) = true) : fit n (.str s) := atom_fit (d := .str s) (by
  have := List.all_eq_true.mp k s h
  exact ⟨of_decide_eq_true (He.ba this).1, (He.ba this).2⟩)
theorem fit_reg {n : Nat} {s : Str} (h : s ∈ regs4) : fit n (.str s) := mem_fit h (by decide +kernel)
theorem fit_exp : ∀ {e : Exp} {n : Nat}, e.ok → e.dep ≤ n → fit n e.d
  | .num i, _, _, _ => fit_i
  | .reg r, _, h, _ => mem_fit (l := regs5) h (by decide +kernel)
  | .op s a b, 0, _, l => absurd l (Nat.not_succ_le_zero _)
  | .op s a b, n + 1, h, l => by
    have l : Nat.max a.dep b.dep + 1 ≤ n + 1 := l
    have la : a.dep ≤ Nat.max a.dep b.dep := Nat.le_max_left ..
    have lb : b.dep ≤ Nat.max a.dep b.dep := Nat.le_max_right ..
    refine ⟨by show 3 ≤ 100000; decide, fun d hd => ?_⟩
    simp only [List.mem_cons, List.not_mem_nil, or_false] at hd
    rcases hd with rfl | rfl | rfl
    · exact mem_fit (l := signs) h.1 (by decide +kernel)
    · exact fit_exp h.2.1 (by omega)
    · exact fit_exp h.2.2 (by omega)
theorem fit_good {e : Exp} {n : Nat} (h : e.good) (l : 6 ≤ n) : fit n e.d := fit_exp h.1 (Nat.le_trans h.2 l)
def wordsR : List Str := ["read", "set", "swap", "keep", "coin", "if", "times", "answer"]
theorem fit_word {n : Nat} {s : Str} (h : s ∈ wordsR) : fit n (.str s) := mem_fit h (by decide +kernel)
theorem row_cl1 (r : Row) : 1 ≤ r.cl := by cases r <;> simp [Row.cl]
theorem rows_len : ∀ rs : List Row, rs.length ≤ rowsCl rs
  | [] => Nat.le_refl 0
  | r :: rs => by
    have := rows_len rs
    have := row_cl1 r
    show rs.length + 1 ≤ r.cl + rowsCl rs
    omega
mutual
theorem row_fit {c : Int} : ∀ {r : Row} {deep loops : Nat}, r.ok c deep loops → deep ≤ 12 → r.cl ≤ 100000 → fit (2 * (13 - deep) + 8) r.d
  | .read r k, _, _, h, _, _ => ⟨by show 3 ≤ 100000; decide, fun d hd => by
      simp only [List.mem_cons, List.not_mem_nil, or_false] at hd
      rcases hd with rfl | rfl | rfl
      · exact fit_word (by decide +kernel)
      · exact fit_reg h.1
      · exact fit_i⟩
  | .set k e, _, _, h, _, _ => ⟨by show 3 ≤ 100000; decide, fun d hd => by
      simp only [List.mem_cons, List.not_mem_nil, or_false] at hd
      rcases hd with rfl | rfl | rfl
      · exact fit_word (by decide +kernel)
      · exact fit_i
      · exact fit_good h.2 (by omega)⟩
  | .swap r k e f, _, _, h, _, _ => ⟨by show 5 ≤ 100000; decide, fun d hd => by
      simp only [List.mem_cons, List.not_mem_nil, or_false] at hd
      rcases hd with rfl | rfl | rfl | rfl | rfl
      · exact fit_word (by decide +kernel)
      · exact fit_reg h.1
      · exact fit_i
      · exact fit_good h.2.2.1 (by omega)
      · exact fit_good h.2.2.2 (by omega)⟩
  | .keep r e, _, _, h, _, _ => ⟨by show 3 ≤ 100000; decide, fun d hd => by
      simp only [List.mem_cons, List.not_mem_nil, or_false] at hd
      rcases hd with rfl | rfl | rfl
      · exact fit_word (by decide +kernel)
      · exact fit_reg h.1
      · exact fit_good h.2 (by omega)⟩
  | .coin r, _, _, h, _, _ => ⟨by show 2 ≤ 100000; decide, fun d hd => by
      simp only [List.mem_cons, List.not_mem_nil, or_false] at hd
      rcases hd with rfl | rfl
      · exact fit_word (by decide +kernel)
      · exact fit_reg h.1⟩
  | .ans e, _, _, h, _, _ => ⟨by show 2 ≤ 100000; decide, fun d hd => by
      have h : e.good := h
      simp only [List.mem_cons, List.not_mem_nil, or_false] at hd
      rcases hd with rfl | rfl
      · exact fit_word (by decide +kernel)
      · exact fit_good h (by omega)⟩
  | .iff e a b, deep, _, h, l, cl => ⟨by show 4 ≤ 100000; decide, fun d hd => by
      have cl : 1 + (rowsCl a + rowsCl b) ≤ 100000 := cl
      simp only [List.mem_cons, List.not_mem_nil, or_false] at hd
      rcases hd with rfl | rfl | rfl | rfl
      · exact fit_word (by decide +kernel)
      · exact fit_good h.1 (by omega)
      · exact fit_up (rows_fit h.2.1 (by omega) (by omega)) (by omega)
      · exact fit_up (rows_fit h.2.2 (by omega) (by omega)) (by omega)⟩
  | .times e a, deep, _, h, l, cl => ⟨by show 3 ≤ 100000; decide, fun d hd => by
      have cl : 1 + rowsCl a ≤ 100000 := cl
      simp only [List.mem_cons, List.not_mem_nil, or_false] at hd
      rcases hd with rfl | rfl | rfl
      · exact fit_word (by decide +kernel)
      · exact fit_good h.1 (by omega)
      · exact fit_up (rows_fit h.2.2 (by omega) (by omega)) (by omega)⟩
theorem rows_fit {c : Int} : ∀ {rs : List Row} {deep loops : Nat}, rowsOk c deep loops rs → deep ≤ 13 → rowsCl rs ≤ 100000 → fit (2 * (13 - deep) + 9) (.tuple (rowsD rs))
  | rs, deep, loops, h, l, cl => ⟨by
      have := rows_len rs
      rw [rowsD_map, List.length_map]
      omega, rows_each h l cl⟩
theorem rows_each {c : Int} : ∀ {rs : List Row} {deep loops : Nat}, rowsOk c deep loops rs → deep ≤ 13 → rowsCl rs ≤ 100000 → ∀ d ∈ rowsD rs, fit (2 * (13 - deep) + 8) d
  | [], _, _, _, _, _, d, hd => nomatch hd
  | r :: rs, deep, loops, h, l, cl, d, hd => by
    have cl : r.cl + rowsCl rs ≤ 100000 := cl
    rcases List.mem_cons.mp hd with rfl | hd
    · exact row_fit h.2.1 h.1 (by omega)
    · exact rows_each h.2.2 l (by omega) d hd
end
theorem name_fit {n : Nat} {s : Str} (h : NameOk s) : fit n (.str s) := atom_fit (d := .str s) ⟨by have := h.2.1; omega, by
  unfold PyData.strOk
  rw [Array.all_eq_true']
  intro x hx
  have := h.2.2 x (by simpa using hx)
  exact decide_eq_true (by omega)⟩
theorem deed_fit {c : Int} {d : Str × Int × List Row} (h : DeedOk c d) : fit 40 (deedD d) := ⟨by show 3 ≤ 100000; decide, fun x hx => by
  simp only [List.mem_cons, List.not_mem_nil, or_false] at hx
  rcases hx with rfl | rfl | rfl
  · exact name_fit h.1
  · exact fit_i
  · exact fit_up (rows_fit h.2.2.1 (by decide) (by have := h.2.2.2.2; omega)) (by decide)⟩
theorem deeds_fit {v : Vlt} (g : VGood v) : fit 41 (.tuple (v.deeds.map deedD)) := ⟨by rw [List.length_map]; have := g.d1; omega, fun x hx => by
  obtain ⟨d, hd, rfl⟩ := List.mem_map.mp hx
  exact deed_fit (g.ds d hd)⟩
theorem ints_fit {n : Nat} (l : List Int) (h : l.length ≤ 100000) : fit (n + 1) (.tuple (l.map PyData.int)) := ⟨by rw [List.length_map]; exact h, fun x hx => by
  obtain ⟨i, _, rfl⟩ := List.mem_map.mp hx
  exact fit_i⟩
theorem cells_fit {v : Vlt} (g : VGood v) : fit 2 (.tuple (v.cells.map cellD)) := ⟨by rw [List.length_map]; have := g.c1; omega, fun x hx => by
  obtain ⟨d, hd, rfl⟩ := List.mem_map.mp hx
  exact ints_fit [d.1, d.2] (by show 2 ≤ 100000; decide)⟩
theorem shaped_str {s : Str} (h : NameOk s) : SeqAt.shaped (.str s) = true := fit_shaped (n := 0) (by decide) (name_fit h)

end M

set_option Elab.async false
set_option linter.all false
set_option maxRecDepth 100000
set_option maxHeartbeats 2000000
namespace M
open PySem PySem.Spec PyProof.Rows L2

/-! ### methods that may raise -/
structure MeX (P : Program) (w : World) (K : PySem.W.Frag) (mg : Str → Option Value) (base : Heap) (k : Nat) (C : Addr) (m : Str) (sp : Sp) : Prop where
  ex : ∃ (f : Addr) (fd : FuncData) (ps : List Str), Cls K C ∧ Meth K C m f ∧ FnOk P w K mg base (L2.CX P w) k f fd ps sp ∧ Binds K fd ps []
section
variable {P : Program} {w : World} {K : PySem.W.Frag} {mg : Str → Option Value} {base : Heap} {x m q : Str} {st : Stmt} {N ps : List Str} {k : Nat} {sp : Sp} {C f : Addr}
theorem me_ofX {C : Str} (F : ∃ fd, FunD K m q (defArgs st) (defBody st) (defScope st) [] [] (He.fAd K (C, some m)) fd) (c : Cls K (He.ga K C)) (g : Meth K (He.ga K C) m (He.ma K (He.ga K C) m)) (S : FnScope N ps (defScope st)) (hb : BindsH m q st ps) (len : ∀ vs H Q E, sp vs H Q E → vs.length = ps.length)
    (hbody : BodyX P w K mg base q st N k (He.fAd K (C, some m)) sp) : MeX P w K mg base (k + 1) (He.ga K C) m sp := by
  obtain ⟨fd, F⟩ := F
  exact ⟨_, fd, ps, c, g, F.ok S len hbody, F.bindsN hb⟩
theorem eqs_of (F : ∃ fd, FunD K "__eq__" q (defArgs st) (defBody st) (defScope st) [] [] (He.fAd K (x, some "__eq__")) fd) (o : Own K x) (S : FnScope N ps (defScope st)) (hb : BindsH "__eq__" q st ps) (len : ∀ vs H Q E, sp vs H Q E → vs.length = ps.length)
    (hbody : BodyH P w K mg base q st N k (He.fAd K (x, some "__eq__")) sp) : Eqs P w K mg base (k + 1) x sp := by
  obtain ⟨fd, F⟩ := F
  exact ⟨o, fd, ps, fn_d F S len hbody, F.bindsN hb⟩
end
section
variable {X : Cx} {k j : Nat} {x m : Str} {sp : Sp} {C : Addr} {p pos apos : Pos} {e o : Expr} {es : List Expr} {t : TA} {ta : TE}
theorem pe_meX {pl : Sem Bool} {W : WX} (c : MeX X.prog X.w X.K X.mg X.base k C m sp) (hr : Room j X.A) (tk : Takes X W) (he : PE X o ta) (ha : PA X (e :: es) t) (hk : k ≤ j := by decide)
    (hst : starEach (e :: es) X.env = (false, eval e X.env) :: starEach es X.env := by rfl) (hpl : (backTo pos (starEach es X.env)).any (·.1) = false := by rfl)
    (ht : eval (.Call (.Attribute o m apos) (e :: es) [] pos) X.env = (do
      let ov ← eval o X.env
      standAt apos.atName
      let (f, first) ← holding [ov] (getMethod ov m pl)
      callWith pos f first (backTo pos (starEach (e :: es) X.env)) (backToKw pos (keywordEach [] X.env))) := by rfl) :
    PE X (.Call (.Attribute o m apos) (e :: es) [] pos) (fun σ H Q => ta σ H fun x H1 => ∃ a dx fs, x = .ref a ∧ H1 a = some (.ins C dx fs) ∧ fs.lookup m = none ∧ t σ H1 fun vs H2 => sp (x :: vs) H2 Q (WE W σ)) := by
  obtain ⟨f, fd, ps, hc, hm, F, b⟩ := c.ex
  refine ⟨fun pins s σ H Q I h => ?_⟩
  refine PySem.W.methodCall_KW (pl := pl) (thn (he.run pins s σ H _ I h) fun u s1 ⟨x, H1, I1, rx, a, dx, fs, ex, ea, l, q⟩ => ?_) ht
  subst ex
  obtain rfl : u = Value.ref a := rx
  refine getmeth_ok I1 ea hc hm l ?_
  refine PySem.W.callWith_K (first := [.ref a]) (h₀ := X.base) I.ok.mod.kin hm.kp (thn (ha.run pos pins s1 σ H1 _ I1 q) fun us s2 ⟨vs, H2, I2, r, q2⟩ => ⟨I2.kIn, ?_⟩) hst hpl
  exact run_fnS (E := WE W) (us := .ref a :: us) (vs := .ref a :: vs) F (hr.mono hk) b (passAt tk σ) I2 (.cons rfl r) q2
end
/-! ### what the own == of a vault says -/
def vEq (v u : Vlt) : Bool := PyData.eqv (.tuple (v.cells.map cellD)) (.tuple (u.cells.map cellD)) && PyData.eqv (.tuple (v.deeds.map deedD)) (.tuple (u.deeds.map deedD))
theorem vat_ins {K : PySem.W.Frag} {H : Hp} {p : Addr} {v : Vlt} (h : VaultAt K H p v) : ∃ dx fs, H p = some (.ins (He.ga K "Vault") dx fs) := by
  obtain ⟨dx, a, d, c, b, kvs, e, _⟩ := h.ob
  exact ⟨dx, _, e⟩
theorem vat_me {K : PySem.W.Frag} {H : Hp} {p : Addr} {v : Vlt} (h : VaultAt K H p v) (m : Str) (h1 : ¬ m = "_cells" := by decide +kernel) (h2 : ¬ m = "_deeds" := by decide +kernel) (h3 : ¬ m = "_codes" := by decide +kernel) (h4 : ¬ m = "_coins" := by decide +kernel) :
    ∃ dx fs, H p = some (.ins (He.ga K "Vault") dx fs) ∧ fs.lookup m = none := by
  obtain ⟨dx, a, d, c, b, kvs, e1, _⟩ := h.ob
  exact ⟨dx, _, e1, vf_no a d c b h1 h2 h3 h4⟩
namespace J
section
variable {P : Program} {w : World} {K : PySem.W.Frag} {mg : Str → Option Value} {base : Heap}
def spVEq (K : PySem.W.Frag) : Sp := fun vs H Q _ => ∃ (p : Addr) (v : Vlt) (y : V), vs = [.ref p, y] ∧ VaultAt K H p v ∧ VGood v ∧ ((∃ s, y = .str s ∧ Q (.bl false) H) ∨ ∃ p2 u, y = .ref p2 ∧ VaultAt K H p2 u ∧ VGood u ∧ Q (.bl (vEq v u)) H)
theorem eq_Vault (T : Txt w K mg) : Eqs P w K mg base 1 "Vault" (spVEq K) := by
  refine eqs_of (N := ["self", "other"]) (ps := ["self", "other"]) T.f_Vault_eq (own_ok T.e_own_Vault) ⟨rfl, rfl, rfl, by decide +kernel, rfl, by decide +kernel, by decide +kernel⟩ (fun _ _ _ _ _ _ us hl => match us, hl with | [_, _], _ => rfl)
    (fun vs H Q E h => by obtain ⟨p, v, y, rfl, hv, gv, h⟩ := h; rfl) (fun cdv A outer s H vs Q E hr h => ?_)
  have nd : (["self", "other"] : List Str).Nodup := by decide +kernel
  obtain ⟨p, v, y, rfl, hv, gv, h⟩ := h
  refine ⟨_, (pss_one (ps_ret (pe_and (pe_callB (call_isO (own_ok T.e_own_Vault) T.c_Vault) (by rfl) T.b_isinstance boot_isinstance (pa_cons (pv 1) (pa_cons (pe_gr T.g_Vault) pa_nil))) (pe_and (pe_cmpR (op_eqD hr.units) (pe_fld (pv 0) rfl) (pe_fld (pv 1) rfl) (nomark _)) (pe_one (pe_cmpR (op_eqD hr.units) (pe_fld (pv 0) rfl) (pe_fld (pv 1) rfl) (nomark _))))))), ?_⟩
  rcases h with ⟨s, rfl, q⟩ | ⟨p2, u, rfl, hu, gu, q⟩
  · exact ⟨_, rfl, _, rfl, .inr ⟨.str, .str s, by decide, _, rfl, iteF q⟩⟩
  · obtain ⟨dx, a, d, c, b, kvs, h1, h2, h3, _⟩ := hv.ob
    obtain ⟨dx2, a2, d2, c2, b2, kvs2, k1, k2, k3, _⟩ := hu.ob
    refine ⟨_, rfl, _, rfl, .inl ⟨p2, _, _, rfl, k1, _, rfl, iteT ?_⟩⟩
    refine ⟨_, rfl, p, _, _, _, _, rfl, h1, T.c_Vault, T.n_Vault_cells, vf_cells .., _, rfl, p2, _, _, _, _, rfl, k1, T.c_Vault, T.n_Vault_cells, vf_cells .., _, _, h2, k2, fit_shaped (by decide) (cells_fit gv), fit_shaped (by decide) (cells_fit gu), _, rfl, ?_⟩
    unfold vEq at q
    cases e : PyData.eqv (.tuple (v.cells.map cellD)) (.tuple (u.cells.map cellD)) with
    | false =>
      rw [e] at q
      exact iteF q
    | true =>
      rw [e] at q
      exact iteT ⟨_, rfl, p, _, _, _, _, rfl, h1, T.c_Vault, T.n_Vault_deeds, vf_deeds .., _, rfl, p2, _, _, _, _, rfl, k1, T.c_Vault, T.n_Vault_deeds, vf_deeds .., _, _, h3, k3, fit_shaped (by decide) (deeds_fit gv), fit_shaped (by decide) (deeds_fit gu), q⟩
end
end J

end M

set_option Elab.async false
set_option linter.all false
set_option maxRecDepth 100000
set_option maxHeartbeats 2000000
namespace M
open PySem PySem.Spec PyProof.Rows L2

def isStr (x : Str) : PyData → Bool
  | .str s => s == x
  | _ => false
theorem eqv_str2 {d : PyData} {x : Str} : PyData.eqv (.str x) d = isStr x d := by
  cases d with
  | str s =>
    rw [PyData.eqv]
    show (x == s) = (s == x)
    exact Bool.eq_iff_iff.mpr ⟨fun h => by rw [beq_iff_eq] at h ⊢; exact h.symm, fun h => by rw [beq_iff_eq] at h ⊢; exact h.symm⟩
  | _ => simp [PyData.eqv, isStr]
/-- a thing that is asked for -/
inductive Tg (K : PySem.W.Frag) (H : Hp) : V → Option PyData → Prop where
  | dat {v : V} {d : PyData} (h : Dp K H v d) : Tg K H v (some d)
  | dic {a : Addr} {kvs : List (Key × V)} (h : H a = some (.dK kvs)) : Tg K H (.ref a) none
  | lst {a : Addr} {xs : List V} (h : SqL K H a xs) : Tg K H (.ref a) none
  | vlt {a : Addr} {u : Vlt} (h : VaultAt K H a u) (g : VGood u) : Tg K H (.ref a) none
theorem Tg.same {K : PySem.W.Frag} {H H' : Hp} {v : V} {o : Option PyData} (s : Same H H') (h : Tg K H v o) : Tg K H' v o := by
  cases h with
  | dat h => exact .dat (dp_same s h)
  | dic h => exact .dic (s _ _ h)
  | lst h => exact .lst (s.seq h)
  | vlt h g => exact .vlt (h.same s) g
def fitT (o : Option PyData) : Prop := ∀ d, o = some d → (∀ s, d ≠ .str s) → fit 58 d
def kdT : Option PyData → Kd
  | some d => kdOf d
  | none => .obj
theorem tg_kd {K : PySem.W.Frag} {H : Hp} {v : V} {o : Option PyData} (w : Own K "Vault") (cl : Cls K (He.ga K "Vault")) (h : Tg K H v o) : ∃ k, Of K H v k ∧ (∀ d, o = some d → k = kdOf d) ∧ (o = none → k ≠ .tuple ∧ k ≠ .str ∧ k ≠ .int ∧ k ≠ .bool) := by
  cases h with
  | dat h => exact ⟨_, dp_kd h, (fun d e => by cases e; rfl), fun z => nomatch z⟩
  | dic h => exact ⟨.dict, .dict (.base (.dK h)), (fun d z => nomatch z), fun _ => by decide⟩
  | lst h => exact ⟨.list, .list h, (fun d z => nomatch z), fun _ => by decide⟩
  | vlt h g =>
    obtain ⟨dx, fs, e⟩ := vat_ins h
    exact ⟨.obj, own_kd w cl e, (fun d z => nomatch z), fun _ => by decide⟩
def isNm (t : Str) : Option PyData → Bool
  | some d => isStr t d
  | none => false
theorem isNm_iff {t : Str} {o : Option PyData} : isNm t o = true ↔ o = some (.str t) := by
  cases o with
  | none => exact ⟨(fun z => nomatch z), (fun z => nomatch z)⟩
  | some d =>
    cases d with
    | str s =>
      show (s == t) = true ↔ _
      rw [beq_iff_eq]
      exact ⟨fun e => by rw [e], fun e => by cases e; rfl⟩
    | _ => exact ⟨(fun z => nomatch z), (fun z => nomatch z)⟩
def inR (lo hi : Int) : PyData → Bool
  | .int i => decide (lo ≤ i) && decide (i ≤ hi)
  | _ => false
def okS : List Int → List PyData → Bool
  | s :: ss, d :: ds => inR 0 (s - 1) d && okS ss ds
  | [], [] => true
  | _, _ => false
def stB (ss : List Int) : Option PyData → Bool
  | some (.tuple ds) => okS ss ds
  | _ => false
theorem okS_len : ∀ {ss : List Int} {ds : List PyData}, ds.length ≠ ss.length → okS ss ds = false
  | [], [], h => absurd rfl h
  | [], _ :: _, _ => rfl
  | _ :: _, [], _ => rfl
  | s :: ss, d :: ds, h => by
    show (inR 0 (s - 1) d && okS ss ds) = false
    rw [okS_len (fun z => h (by simp [z])), Bool.and_false]
theorem okS_ok : ∀ {ss : List Int} {ds : List PyData}, okS ss ds = true → ∃ hs, ds = hs.map PyData.int ∧ StateOk ss hs
  | [], [], _ => ⟨[], rfl, rfl, fun i s h e => by simp at e⟩
  | [], _ :: _, h => nomatch h
  | _ :: _, [], h => nomatch h
  | s :: ss, d :: ds, h => by
    obtain ⟨h1, h2⟩ := He.ba h
    obtain ⟨hs, rfl, l, k⟩ := okS_ok h2
    cases d with
    | int i =>
      obtain ⟨a, b⟩ := He.ba h1
      have a := of_decide_eq_true a
      have b := of_decide_eq_true b
      refine ⟨i :: hs, rfl, by simp [l], fun j x y e1 e2 => ?_⟩
      cases j with
      | zero =>
        cases (Option.some.inj e1)
        cases (Option.some.inj e2)
        exact ⟨a, by omega⟩
      | succ j => exact k j x y e1 e2
    | _ => cases h1
theorem okS_of : ∀ {ss hs : List Int}, StateOk ss hs → okS ss (hs.map PyData.int) = true
  | [], [], _ => rfl
  | [], _ :: _, h => nomatch h.1
  | _ :: _, [], h => nomatch h.1
  | s :: ss, h :: hs, k => by
    have b := k.2 0 s h rfl rfl
    have r : StateOk ss hs := ⟨Nat.succ.inj k.1, fun i x y e1 e2 => k.2 (i + 1) x y e1 e2⟩
    show ((decide (0 ≤ h) && decide (h ≤ s - 1)) && okS ss (hs.map PyData.int)) = true
    rw [okS_of r, decide_eq_true b.1, decide_eq_true (show h ≤ s - 1 by omega)]
    rfl
theorem okS_step {ss : List Int} {ds : List PyData} {i : Nat} {s : Int} {d : PyData} (h1 : ss[i]? = some s) (h2 : ds[i]? = some d) : okS (ss.drop i) (ds.drop i) = (inR 0 (s - 1) d && okS (ss.drop (i + 1)) (ds.drop (i + 1))) := by
  rw [List.drop_eq_getElem_cons (List.getElem?_eq_some_iff.mp h1).1, List.drop_eq_getElem_cons (List.getElem?_eq_some_iff.mp h2).1, (List.getElem?_eq_some_iff.mp h1).2, (List.getElem?_eq_some_iff.mp h2).2]
  rfl
namespace J
section
variable {P : Program} {w : World} {K : PySem.W.Frag} {mg : Str → Option Value} {base : Heap}
theorem tg_eq {H : Hp} {y : V} {o : Option PyData} {t : Str} {Q : VK} (h : Tg K H y o) (f : fitT o) (n : NameOk t) (q : Q (.bl (isNm t o)) H) : rEqS K "Vault" (spVEq K) (.str t) y H Q := by
  refine ⟨t, rfl, ?_⟩
  cases h with
  | @dat _ d h =>
    by_cases c : ∃ s, d = .str s
    · obtain ⟨s, rfl⟩ := c
      cases dp_str h
      refine .inl ⟨s, rfl, ?_⟩
      have e : decide (V.str t = V.str s) = isNm t (some (.str s)) := by
        show _ = (s == t)
        rw [show (s == t) = decide (s = t) from rfl]
        exact decide_eq_decide.mpr ⟨fun z => (V.str.inj z).symm, fun z => by rw [z]⟩
      rw [e]
      exact q
    · exact .inr (.inl ⟨_, h, fit_shaped (n := 58) (by decide) (f _ rfl fun s e => c ⟨s, e⟩), shaped_str n, by rw [eqv_str2]; exact q⟩)
  | dic h => exact .inr (.inr (.inl ⟨_, _, rfl, h, q⟩))
  | lst h => exact .inr (.inr (.inr (.inl ⟨_, _, rfl, h, q⟩)))
  | vlt h g =>
    obtain ⟨dx, fs, e⟩ := vat_ins h
    exact .inr (.inr (.inr (.inr ⟨_, dx, fs, rfl, e, _, _, _, rfl, h, g, .inl ⟨t, rfl, ⟨_, rfl⟩, q⟩⟩)))
def spWithin (K : PySem.W.Frag) : Sp := fun vs H Q _ => ∃ (v : V) (d : PyData) (lo hi : Int), vs = [v, .int lo, .int hi] ∧ Dp K H v d ∧ Q (.bl (inR lo hi d)) H
theorem ca_is_within (T : Txt w K mg) : Ca P w K mg base 2 "is_within" (spWithin K) := by
  refine ca_of (N := ["value", "least", "greatest"]) (ps := ["value", "least", "greatest"]) T.f_is_within T.g_is_within ⟨rfl, rfl, rfl, by decide +kernel, rfl, by decide +kernel, by decide +kernel⟩ (fun _ _ _ _ _ _ us hl => match us, hl with | [_, _, _], _ => rfl)
    (fun vs H Q E h => by obtain ⟨v, d, lo, hi, rfl, hd, q⟩ := h; rfl) (fun cdv A outer s H vs Q E hr h => ?_)
  have nd : (["value", "least", "greatest"] : List Str).Nodup := by decide +kernel
  obtain ⟨v, d, lo, hi, rfl, hd, q⟩ := h
  refine ⟨_, (pss_one (ps_ret (pe_and (pe_ca (M.ca_is_integer T) hr (pa_cons (pv 0) pa_nil)) (pe_one (pe_chain op_le op_le (pv 1) (pv 0) (pv 2)))))), ?_⟩
  refine ⟨_, rfl, _, _, rfl, dp_kd hd, _, rfl, ?_⟩
  cases hd with
  | int i =>
    refine iteT ⟨_, rfl, _, rfl, _, _, rfl, rfl, _, rfl, ?_⟩
    have q : Q (.bl (decide (lo ≤ i) && decide (i ≤ hi))) H := q
    by_cases c : lo ≤ i
    · rw [decide_eq_true c] at q ⊢
      exact iteT ⟨_, rfl, _, _, rfl, rfl, q⟩
    · rw [decide_eq_false c] at q ⊢
      exact iteF q
  | _ => exact iteF q
def spTupT (K : PySem.W.Frag) : Sp := fun vs H Q _ => ∃ (v : V) (o : Option PyData) (n : Nat), vs = [v, .int n] ∧ Tg K H v o ∧ Q (.bl (match o with | some (.tuple ds) => decide (ds.length = n) | _ => false)) H
theorem ca_is_tuple (T : Txt w K mg) : Ca P w K mg base 1 "is_tuple" (spTupT K) := by
  refine ca_of (N := ["value", "length"]) (ps := ["value", "length"]) T.f_is_tuple T.g_is_tuple ⟨rfl, rfl, rfl, by decide +kernel, rfl, by decide +kernel, by decide +kernel⟩ (fun _ _ _ _ _ _ us hl => match us, hl with | [_, _], _ => rfl)
    (fun vs H Q E h => by obtain ⟨v, o, n, rfl, ho, q⟩ := h; rfl) (fun cdv A outer s H vs Q E hr h => ?_)
  have nd : (["value", "length"] : List Str).Nodup := by decide +kernel
  obtain ⟨v, o, n, rfl, ho, q⟩ := h
  refine ⟨_, (pss_one (ps_ret (pe_and (pe_is .tuple T.b_isinstance (pv 0) T.b_tuple boot_tuple) (pe_one (pe_cmpR op_eq (pe_callB call_len_seq (by rfl) T.b_len PySem.boot_len (pa_cons (pv 0) pa_nil)) (pv 1) (nomark _)))))), ?_⟩
  obtain ⟨k, kd, k1, k2⟩ := tg_kd (own_ok T.e_own_Vault) T.c_Vault ho
  refine ⟨_, rfl, _, _, rfl, kd, _, rfl, ?_⟩
  cases o with
  | none =>
    have e : k.is .tuple = false := by
      have := (k2 rfl).1
      cases k <;> first | rfl | exact absurd rfl this
    rw [e]
    exact iteF q
  | some d =>
    cases ho with
    | dat h =>
      cases k1 _ rfl
      cases h with
      | tup h1 h2 =>
        rename_i a xs ds
        refine iteT ⟨_, rfl, _, _, rfl, .inr h1, _, rfl, rfl, ?_⟩
        have e : (decide (V.int (xs.length : Int) = V.int n)) = decide (ds.length = n) := by
          rw [dps_len h2]
          exact decide_eq_decide.mpr ⟨fun z => by have := V.int.inj z; omega, fun z => by rw [z]⟩
        rw [e]
        exact q
      | _ => exact iteF q
def spStT (K : PySem.W.Frag) : Sp := fun vs H Q _ => ∃ (a : Addr) (v : V) (ss : List Int) (o : Option PyData), vs = [.ref a, v] ∧ SqT K H a (ss.map .int) ∧ Tg K H v o ∧ ∀ H', Same H H' → Q (.bl (stB ss o)) H'
theorem ca_is_state (T : Txt w K mg) : Ca P w K mg base 3 "is_state" (spStT K) := by
  refine ca_of (N := ["sizes", "value", "size", "held"]) (ps := ["sizes", "value"]) T.f_is_state T.g_is_state ⟨rfl, rfl, rfl, by decide +kernel, rfl, by decide +kernel, by decide +kernel⟩ (fun _ _ _ _ _ _ us hl => match us, hl with | [_, _], _ => rfl)
    (fun vs H Q E h => by obtain ⟨a, v, ss, o, rfl, ha, ho, q⟩ := h; rfl) (fun cdv A outer s H vs Q E hr h => ?_)
  have nd : (["sizes", "value", "size", "held"] : List Str).Nodup := by decide +kernel
  obtain ⟨a, v, ss, o, rfl, ha, ho, q⟩ := h
  refine ⟨_, pss_cons (ps_if (pt_not (pt_val (pe_ca (ca_is_tuple T) hr (pa_cons (pv 1) (pa_cons (pe_callB call_len_seq (by rfl) T.b_len PySem.boot_len (pa_cons (pv 0) pa_nil)) pa_nil))))) (pss_one (ps_ret pe_bl)) pss_nil)
    (pss_cons (ps_for PassesOwn.never rfl (RZ.pi_zipA (by rfl) T.b_zip (pa_cons (pv 0) (pa_cons (pv 1) pa_nil))) (pg_tup rfl (pgs_cons (pg_name (i := 2) nd rfl (.inl rfl)) (pgs_cons (pg_name (i := 3) nd rfl (.inl rfl)) pgs_nil)))
      (pss_one (ps_if (pt_not (pt_val (pe_ca (ca_is_within T) hr (pa_cons (pv 3) (pa_cons pe_int (pa_cons (pe_op op_sub (pv 2) pe_int) pa_nil)))))) (pss_one (ps_ret pe_bl)) pss_nil)))
    (pss_one (ps_ret pe_bl))), ?_⟩
  refine ⟨_, rfl, _, rfl, _, _, rfl, .inr ha, v, o, ss.length, by rw [List.length_map]; rfl, ho, _, rfl, ?_⟩
  have bad : stB ss o = false → ∀ H', Same H H' → Q (.bl false) H' := fun e H' s => by
    have := q H' s
    rw [e] at this
    exact this
  cases ho with
  | dat h =>
    cases h with
    | @tup b ys ds hb hds =>
      have e0 : stB ss (some (.tuple ds)) = okS ss ds := rfl
      show if (!decide (ds.length = ss.length)) = true then _ else _
      by_cases c : ds.length = ss.length
      case neg =>
        rw [decide_eq_false c]
        exact iteT (bad (by rw [e0]; exact okS_len c) H (Same.refl _))
      rw [decide_eq_true c]
      have ly := dps_len hds
      refine iteF ⟨_, rfl, _, rfl, a, b, _, _, rfl, .inr ⟨ha, hb, RZ.for_zipT (xs := ss.map V.int) (ys := ys) (by rw [List.length_map]; omega) (fun i σ H' => ∃ x y, σ = [some (.ref a), some (.ref b), x, y] ∧ Same H H' ∧ okS ss ds = okS (ss.drop i) (ds.drop i)) ⟨none, none, rfl, Same.refl H, rfl⟩ (fun i σ H' ⟨_, _, _, s, _⟩ => ⟨same_t s ha, same_t s hb⟩) ?_ ?_⟩⟩
      · rintro i x y t σ H' hx hy ⟨u, u2, rfl, s, ei⟩ ht
        obtain ⟨z, hz, rfl⟩ := get_map hx
        obtain ⟨d, ed, hd⟩ := dps_get hds hy
        have sn := same_new (o := .tup [.int z, y]) ht
        rw [okS_step hz ed] at ei
        refine ⟨t, _, rfl, SqT.of upd_same, rfl, _, _, rfl, _, _, rfl, rfl, ?_⟩
        refine ⟨_, rfl, _, rfl, _, _, rfl, rfl, y, d, 0, z - 1, rfl, dp_same (s.trans sn) hd, _, rfl, ?_⟩
        cases e1 : inR 0 (z - 1) d with
        | false =>
          rw [e1] at ei
          exact iteT (bad (e0.trans ei) _ (s.trans sn))
        | true =>
          rw [e1, Bool.true_and] at ei
          exact iteF ⟨_, _, rfl, s.trans sn, ei⟩
      · rintro σ H' ⟨_, _, rfl, s, ei⟩
        rw [List.length_map, List.drop_of_length_le (Nat.le_refl _), List.drop_of_length_le (by omega)] at ei
        have := q H' s
        rw [e0, ei] at this
        exact this
    | _ => exact iteT (bad rfl H (Same.refl _))
  | dic h => exact iteT (bad rfl H (Same.refl _))
  | lst h => exact iteT (bad rfl H (Same.refl _))
  | vlt h g => exact iteT (bad rfl H (Same.refl _))
def spChkX (K : PySem.W.Frag) : Sp := fun vs H Q E => ∃ (p : Addr) (y : V) (v : Vlt) (o : Option PyData), vs = [.ref p, y] ∧ VaultAt K H p v ∧ VGood v ∧ Tg K H y o ∧ (if stB (v.cells.map (·.1)) o = true then ∀ H', Same H H' → Q .non H' else ∀ H', Same H H' → E (.ref (He.ga K "NoState")) none H')
theorem cx_check_state (T : Txt w K mg) : CaX P w K mg base 4 "check_state" (spChkX K) := by
  refine ca_ofX (N := ["vault", "state"]) (ps := ["vault", "state"]) T.f_check_state T.g_check_state ⟨rfl, rfl, rfl, by decide +kernel, rfl, by decide +kernel, by decide +kernel⟩ (fun _ _ _ _ _ _ us hl => match us, hl with | [_, _], _ => rfl)
    (fun vs H Q E h => by obtain ⟨p, y, v, o, rfl, hv, gv, ho, q⟩ := h; rfl) (fun cdv A outer s H vs Q E hr h => ?_)
  have nd : (["vault", "state"] : List Str).Nodup := by decide +kernel
  obtain ⟨p, y, v, o, rfl, hv, gv, ho, q⟩ := h
  refine ⟨_, (pss_one (ps_if (pt_not (pt_val (pe_ca (ca_is_state T) hr (pa_cons (pe_me0 (me_Vault_sizes T) hr (pv 0)) (pa_cons (pv 1) pa_nil))))) (pss_one (ps_raise0 K rfl PySem.F.excBase_ValueError T.x_NoState T.g_NoState rfl (takes_of rfl rfl rfl rfl))) pss_nil)), ?_⟩
  obtain ⟨dx, fs, e1, e2⟩ := vat_me hv "sizes"
  refine ⟨_, rfl, p, dx, fs, rfl, e1, e2, p, v, rfl, hv, gv.c1, fun a H1 s1 ha => ⟨_, rfl, a, y, _, o, rfl, .of ha, ho.same s1, fun H2 s2 => ⟨_, rfl, ?_⟩⟩⟩
  have s12 := s1.trans s2
  cases e : stB (v.cells.map (·.1)) o with
  | true =>
    rw [e, if_pos rfl] at q
    exact iteF (q H2 s12)
  | false =>
    rw [e, if_neg (by decide)] at q
    exact iteT (q H2 s12)
end
end J

end M

set_option Elab.async false
set_option linter.all false
set_option maxRecDepth 100000
set_option maxHeartbeats 2000000
namespace M
open PySem PySem.Spec PyProof.Rows L2

namespace J
section
variable {P : Program} {w : World} {K : PySem.W.Frag} {mg : Str → Option Value} {base : Heap}
def spBegX (K : PySem.W.Frag) : Sp := fun vs H Q E => ∃ (p : Addr) (y : V) (v : Vlt) (o : Option PyData), vs = [.ref p, y] ∧ VaultAt K H p v ∧ VGood v ∧ Tg K H y o ∧
  (stB (v.cells.map (·.1)) o = false → ∀ H', Same H H' → E (.ref (He.ga K "NoState")) none H') ∧
  (∀ hs, o = some (.tuple (hs.map PyData.int)) → StateOk (v.cells.map (·.1)) hs → ∀ (x : Addr) (H' : Hp), Same H H' → H x = none → VaultAt K H' x ⟨begunC v hs, v.deeds⟩ → Q (.ref x) H')
theorem cx_begun (T : Txt w K mg) : CaX P w K mg base 55 "begun" (spBegX K) := by
  refine ca_ofX (N := ["vault", "state"]) (ps := ["vault", "state"]) T.f_begun T.g_begun ⟨rfl, rfl, rfl, by decide +kernel, rfl, by decide +kernel, by decide +kernel⟩ (fun _ _ _ _ _ _ us hl => match us, hl with | [_, _], _ => rfl)
    (fun vs H Q E h => by obtain ⟨p, y, v, o, rfl, hv, gd, ho, q1, q2⟩ := h; rfl) (fun cdv A outer s H vs Q E hr h => ?_)
  have nd : (["vault", "state"] : List Str).Nodup := by decide +kernel
  obtain ⟨p, y, v, o, rfl, hv, gd, ho, q1, q2⟩ := h
  refine ⟨_, (pss_cons (ps_expr (pe_caX (cx_check_state T) hr (takes_of rfl rfl rfl rfl) (pa_cons (pv 0) (pa_cons (pv 1) pa_nil))))
      (pss_one (ps_ret (pe_ma (ma_Vault T) hr (pa_cons (pe_lstZip (by rfl) (by rfl) T.b_list (by rfl) T.b_zip (pa_cons (pe_me0 (me_Vault_sizes T) hr (pv 0)) (pa_cons (pv 1) pa_nil))) (pa_cons (pe_callTy call_list_of (by rfl) T.b_list boot_list (pa_cons (pe_ix ix_tup (pe_me0 (me_Vault_shape T) hr (pv 0)) pe_int (fun _ _ => rfl)) pa_nil)) pa_nil)))))), ?_⟩
  refine ⟨_, rfl, _, rfl, p, y, v, o, rfl, hv, gd, ho, ?_⟩
  cases e : stB (v.cells.map (·.1)) o with
  | false =>
    rw [if_neg (by decide)]
    exact fun H1 s1 => q1 e H1 s1
  | true =>
    rw [if_pos rfl]
    intro H1 s1
    obtain ⟨ds, rfl⟩ : ∃ ds, o = some (.tuple ds) := by
      unfold stB at e
      split at e
      · exact ⟨_, rfl⟩
      · cases e
    obtain ⟨hs, rfl, so⟩ := okS_ok (show okS _ ds = true from e)
    have q := q2 hs rfl so
    cases ho with | dat hb => ?_
    obtain ⟨b, ys, rfl, hb, hys⟩ := dp_tup hb
    cases dps_ints hys
    obtain ⟨dx, gs, e1, e2⟩ := vat_me (hv.same s1) "sizes"
    refine ⟨_, rfl, p, dx, gs, rfl, e1, e2, p, v, rfl, hv.same s1, gd.c1, fun sa H2 s2 hsz => ?_⟩
    have s12 := s1.trans s2
    have lhs : v.cells.length = hs.length := by
      have := so.1
      rw [List.length_map] at this
      exact this
    have c6 := gd.c1
    refine ⟨_, rfl, sa, b, _, _, rfl, .of hsz, same_t s12 hb, by simp [lhs], by simp; omega, fun l acc H3 nl s3 hl la pr => ?_⟩
    have s13 := s12.trans s3
    have la' : acc.length = (v.cells.map (·.1)).length := by simpa using la
    have dcs : DpAll K H3 acc ((begunC v hs).map cellD) := pairs_cells la' (by simp [lhs]) pr
    obtain ⟨dx2, gs2, e3, e4⟩ := vat_me (hv.same s13) "shape"
    refine ⟨_, rfl, p, dx2, gs2, rfl, e3, e4, p, v, rfl, hv.same s13, fun t xx dd H4 s4 ht _ hdd => ?_⟩
    obtain ⟨da, dxs, rfl, hda, hdx⟩ := dp_tup hdd
    refine ⟨_, _, _, _, rfl, rfl, .of ht, at1, da, dxs, rfl, .inr hda, fun l2 nl2 => ?_⟩
    have s5 : Same H4 (upd H4 l2 (.lst dxs)) := same_new nl2
    have x2 : upd H4 l2 (.lst dxs) l2 = some (.lst dxs) := upd_same
    generalize upd H4 l2 (.lst dxs) = H5 at s5 x2 ⊢
    intro x dxa hx hdxa ne
    have w3 : Same H5 (upd (upd H5 dxa (.own x)) x (.ins (He.ga K "Vault") dxa [])) := (same_new hdxa).trans (same_new (by rw [upd_ne (Ne.symm ne)]; exact hx))
    have s35 := s4.trans s5
    have s05 := (s13.trans s4).trans s5
    refine ⟨x, dxa, l, l2, acc, dxs, ⟨begunC v hs, v.deeds⟩, rfl, upd_same, .of ((s35.trans w3) _ _ hl), dps_same (s35.trans w3) dcs, .of (w3 _ _ x2), dps_same (s5.trans w3) hdx, begun_good gd so, fun H6 b6 vt => ⟨rfl, q x H6 (fun b o e => b6 _ _ (ne_of_none (s05 _ _ e) hx) ((s05.trans w3) _ _ e)) (none_of s05 hx) vt⟩⟩
def spNames (K : PySem.W.Frag) : Sp := fun vs H Q _ => ∃ (p : Addr) (v : Vlt), vs = [.ref p] ∧ VaultAt K H p v ∧ v.deeds.length ≤ 8 ∧ ∀ (l : Addr) (H' : Hp), Same H H' → H l = none → H' l = some (.lst (v.deeds.map fun d => V.str d.1)) → Q (.ref l) H'
theorem me_Vault_names (T : Txt w K mg) : Me P w K mg base 1 (He.ga K "Vault") "names" (spNames K) := by
  refine me_of (N := ["self", "name", "_"]) (ps := ["self"]) T.f_Vault_names T.c_Vault T.m_Vault_names ⟨rfl, rfl, rfl, by decide +kernel, rfl, by decide +kernel, by decide +kernel⟩ (fun _ _ _ _ _ _ us hl => match us, hl with | [_], _ => rfl)
    (fun vs H Q E h => by obtain ⟨p, v, rfl, hv, hl, q⟩ := h; rfl) (fun cdv A outer s H vs Q E hr h => ?_)
  have nd : (["self", "name", "_"] : List Str).Nodup := by decide +kernel
  obtain ⟨p, v, rfl, hv, hl, q⟩ := h
  obtain ⟨dx, a, d, c, b, kvs, h1, h2, h3, h4, h5⟩ := hv.ob
  obtain ⟨a, xs, ea, hx, hxs⟩ := dp_tup h3
  cases ea
  refine ⟨_, pss_one (ps_ret (pe_lc (own := [("name", 1), ("_", 2)]) (tt := tYes) rfl nd (pi_tup (pe_fld (pv 0) rfl)) (blkOk_by (N := ["self", "name", "_"]) (sc := defScope s_Vault_names) (by decide +kernel))
    (fun _ _ _ _ _ => pg_three K 1 2 2 rfl rfl nd rfl rfl rfl (.inl rfl) (.inl rfl) (.inl rfl) (.inr rfl) (.inr rfl) (.inr rfl)) (fun _ _ _ _ _ => pts_nil) (fun _ _ _ _ _ => pv 1))), ?_⟩
  have el : xs.length = v.deeds.length := by rw [dps_len hxs, List.length_map]
  refine ⟨_, rfl, p, _, _, _, _, rfl, h1, T.c_Vault, T.n_Vault_deeds, vf_deeds .., _, rfl, ⟨_, hx⟩, fun D hD => ?_⟩
  refine lc_out (n := xs.length) walk_tup hD (by omega) (fun i y H => ∃ c, v.deeds[i]? = some c ∧ y = .str c.1) (fun _ _ _ _ _ _ h => h) (fun H' s => same_t s hx) (fun i x H' H2 N F hi s y k => ?_) (fun H' ys s hD' hl' hr => ?_)
  · obtain ⟨rfl, ex⟩ := y
    obtain ⟨dd, ed, hdd⟩ := dps_get hxs ex
    obtain ⟨cc, ec, rfl⟩ := get_mapA ed
    obtain ⟨t, x1, x2, x3, rfl, ht, e1, e2, e3⟩ := dp3 (dp_same s hdd)
    cases dp_str e1
    refine ⟨t, _, rfl, ht, rfl, _, _, rfl, _, _, rfl, _, _, rfl, rfl, rfl, iteT ⟨_, rfl, k _ _ (Same.refl _) ⟨cc, ec, rfl⟩⟩⟩
  · have em : ys = v.deeds.map fun d => V.str d.1 := map_of (by omega) fun i y e => hr i y e
    rw [em] at hD'
    exact q D H' s hD hD'
def spDeedX (K : PySem.W.Frag) : Sp := fun vs H Q E => ∃ (p : Addr) (y : V) (v : Vlt) (o : Option PyData), vs = [.ref p, y] ∧ VaultAt K H p v ∧ VGood v ∧ Tg K H y o ∧ fitT o ∧
  (∀ d ∈ v.deeds, o = some (.str d.1) → ∀ t, Dp K H (.ref t) (deedD d) → Q (.ref t) H) ∧ ((∀ d ∈ v.deeds, o ≠ some (.str d.1)) → E (.ref (He.ga K "NoName")) none H)
theorem mex_Vault_deed (T : Txt w K mg) : MeX P w K mg base 2 (He.ga K "Vault") "_deed" (spDeedX K) := by
  refine me_ofX (N := ["self", "name", "deed"]) (ps := ["self", "name"]) T.f_Vault_deed T.c_Vault T.m_Vault_deed ⟨rfl, rfl, rfl, by decide +kernel, rfl, by decide +kernel, by decide +kernel⟩ (fun _ _ _ _ _ _ us hl => match us, hl with | [_, _], _ => rfl)
    (fun vs H Q E h => by obtain ⟨p, y, v, o, rfl, hv, gv, ho, ft, q1, q2⟩ := h; rfl) (fun cdv A outer s H vs Q E hr h => ?_)
  have nd : (["self", "name", "deed"] : List Str).Nodup := by decide +kernel
  obtain ⟨p, y, v, o, rfl, hv, gv, ho, ft, q1, q2⟩ := h
  refine ⟨_, (pss_cons (ps_for (passes_of rfl) rfl (pi_tup (pe_fld (pv 0) rfl)) (pg_name (i := 2) nd rfl (.inl rfl)) (pss_one (ps_if (pt_cmpR (op_eqS (eq_Vault T) hr) (pe_ix ix_tup (pv 2) pe_int (fun _ _ => rfl)) (pv 1) (nomark _)) (pss_one (ps_ret (pv 2))) pss_nil)))
      (pss_one (ps_raise0 K rfl PySem.F.excBase_ValueError T.x_NoName T.g_NoName rfl (takes_of rfl rfl rfl rfl)))), ?_⟩
  obtain ⟨dx, a, d, c, b, kvs, h1, h2, h3, h4, h5⟩ := hv.ob
  obtain ⟨a, xs, ea, hx, hxs⟩ := dp_tup h3
  cases ea
  have el : xs.length = v.deeds.length := by rw [dps_len hxs, List.length_map]
  refine ⟨_, rfl, p, _, _, _, _, rfl, h1, T.c_Vault, T.n_Vault_deeds, vf_deeds .., _, rfl, ⟨_, hx⟩, for_it (n := xs.length) walk_tup (fun i σ' H' => ∃ z, σ' = [some (.ref p), some y, z] ∧ H' = H ∧ ∀ (j : Nat) (d : Str × Int × List Row), j < i → v.deeds[j]? = some d → o ≠ some (.str d.1)) ⟨none, rfl, rfl, fun j d h => absurd h (Nat.not_lt_zero j)⟩ (fun i σ' H' _ ⟨_, _, e, _⟩ => e ▸ hx) ?_ ?_⟩
  · rintro i x σ' H' H2 hi ⟨z, rfl, rfl, hno⟩ ⟨rfl, ex⟩
    obtain ⟨dd, ed, hdd⟩ := dps_get hxs ex
    obtain ⟨cc, ec, rfl⟩ := get_mapA ed
    have hm := List.mem_of_getElem? ec
    obtain ⟨t, x1, x2, x3, rfl, ht, e1, e2, e3⟩ := dp3 hdd
    cases dp_str e1
    refine ⟨_, rfl, _, _, _, _, rfl, rfl, ht, at0, _, rfl, tg_eq ho ft (gv.ds cc hm).1 ⟨_, rfl, ?_⟩⟩
    cases en : isNm cc.1 o with
    | true => exact iteT ⟨_, rfl, q1 cc hm (isNm_iff.mp en) t hdd⟩
    | false =>
      refine iteF ⟨_, rfl, rfl, fun j d hj hd => ?_⟩
      rcases Nat.lt_or_eq_of_le (Nat.le_of_lt_succ hj) with hj | rfl
      · exact hno j d hj hd
      · cases (Option.some.inj (ec.symm.trans hd))
        intro z
        rw [isNm_iff.mpr z] at en
        cases en
  · rintro σ' H' ⟨z, rfl, rfl, hno⟩
    refine q2 fun d hd => ?_
    obtain ⟨j, hj, e⟩ := List.mem_iff_getElem.mp hd
    exact hno j d (by omega) (by rw [List.getElem?_eq_getElem hj, e])
def spChoX (K : PySem.W.Frag) : Sp := fun vs H Q E => ∃ (p : Addr) (y : V) (v : Vlt) (o : Option PyData), vs = [.ref p, y] ∧ VaultAt K H p v ∧ VGood v ∧ Tg K H y o ∧ fitT o ∧
  (∀ d ∈ v.deeds, o = some (.str d.1) → Q (.int d.2.1) H) ∧ ((∀ d ∈ v.deeds, o ≠ some (.str d.1)) → E (.ref (He.ga K "NoName")) none H)
theorem mex_Vault_choices (T : Txt w K mg) : MeX P w K mg base 3 (He.ga K "Vault") "choices" (spChoX K) := by
  refine me_ofX (N := ["self", "name"]) (ps := ["self", "name"]) T.f_Vault_choices T.c_Vault T.m_Vault_choices ⟨rfl, rfl, rfl, by decide +kernel, rfl, by decide +kernel, by decide +kernel⟩ (fun _ _ _ _ _ _ us hl => match us, hl with | [_, _], _ => rfl)
    (fun vs H Q E h => by obtain ⟨p, y, v, o, rfl, hv, gv, ho, ft, q1, q2⟩ := h; rfl) (fun cdv A outer s H vs Q E hr h => ?_)
  have nd : (["self", "name"] : List Str).Nodup := by decide +kernel
  obtain ⟨p, y, v, o, rfl, hv, gv, ho, ft, q1, q2⟩ := h
  refine ⟨_, (pss_one (ps_ret (pe_ix ix_tup (pe_meX (mex_Vault_deed T) hr (takes_of rfl rfl rfl rfl) (pv 0) (pa_cons (pv 1) pa_nil)) pe_int (fun _ _ => rfl)))), ?_⟩
  obtain ⟨dx, fs, e1, e2⟩ := vat_me hv "_deed"
  refine ⟨_, rfl, p, dx, fs, rfl, e1, e2, _, rfl, p, y, v, o, rfl, hv, gv, ho, ft, fun d hd e t dt => ?_, q2⟩
  obtain ⟨t', x1, x2, x3, et, ht, f1, f2, f3⟩ := dp3 dt
  cases et
  cases dp_int f2
  exact ⟨_, _, _, _, rfl, rfl, ht, at1, q1 d hd e⟩
def spRowsX (K : PySem.W.Frag) : Sp := fun vs H Q E => ∃ (p : Addr) (y : V) (v : Vlt) (o : Option PyData), vs = [.ref p, y] ∧ VaultAt K H p v ∧ VGood v ∧ Tg K H y o ∧ fitT o ∧
  (∀ d ∈ v.deeds, o = some (.str d.1) → ∀ x, Dp K H x (.tuple (rowsD d.2.2)) → Q x H) ∧ ((∀ d ∈ v.deeds, o ≠ some (.str d.1)) → E (.ref (He.ga K "NoName")) none H)
theorem mex_Vault_rows (T : Txt w K mg) : MeX P w K mg base 3 (He.ga K "Vault") "rows" (spRowsX K) := by
  refine me_ofX (N := ["self", "name"]) (ps := ["self", "name"]) T.f_Vault_rows T.c_Vault T.m_Vault_rows ⟨rfl, rfl, rfl, by decide +kernel, rfl, by decide +kernel, by decide +kernel⟩ (fun _ _ _ _ _ _ us hl => match us, hl with | [_, _], _ => rfl)
    (fun vs H Q E h => by obtain ⟨p, y, v, o, rfl, hv, gv, ho, ft, q1, q2⟩ := h; rfl) (fun cdv A outer s H vs Q E hr h => ?_)
  have nd : (["self", "name"] : List Str).Nodup := by decide +kernel
  obtain ⟨p, y, v, o, rfl, hv, gv, ho, ft, q1, q2⟩ := h
  refine ⟨_, (pss_one (ps_ret (pe_ix ix_tup (pe_meX (mex_Vault_deed T) hr (takes_of rfl rfl rfl rfl) (pv 0) (pa_cons (pv 1) pa_nil)) pe_int (fun _ _ => rfl)))), ?_⟩
  obtain ⟨dx, fs, e1, e2⟩ := vat_me hv "_deed"
  refine ⟨_, rfl, p, dx, fs, rfl, e1, e2, _, rfl, p, y, v, o, rfl, hv, gv, ho, ft, fun d hd e t dt => ?_, q2⟩
  obtain ⟨t', x1, x2, x3, et, ht, f1, f2, f3⟩ := dp3 dt
  cases et
  exact ⟨_, _, _, _, rfl, rfl, ht, at2, q1 d hd e _ f3⟩
end
end J

end M

set_option Elab.async false
set_option linter.all false
set_option maxRecDepth 100000
set_option maxHeartbeats 2000000
namespace M
open PySem PySem.Spec PyProof.Rows L2

theorem cut_to {z : Str} {k : Nat} (h : k ≤ z.length) : TL.tl (cutS z none (some (k : Int))) = (TL.tl z).take k := by
  unfold cutS
  rw [HT.sIx_none, HT.sIx_nat, List.drop_zero, Nat.sub_zero, Nat.min_eq_left h]
theorem cut_from {z : Str} {k : Nat} (h : k ≤ z.length) : TL.tl (cutS z (some (k : Int)) none) = (TL.tl z).drop k := by
  unfold cutS
  rw [HT.sIx_none, HT.sIx_nat, Nat.min_eq_left h, List.take_of_length_le (by rw [List.length_drop, Array.length_toList]; exact Nat.le_refl _)]
theorem tl_lenJ (s : Str) : s.length = (TL.tl s).length := TL.len_tl s
theorem len_appJ (a b : Str) : (a ++ b).length = a.length + b.length := by rw [tl_lenJ, TL.tl_append, List.length_append, ← tl_lenJ, ← tl_lenJ]
/-- a word of n letters -/
def WordOk (n : Nat) (s : Str) : Prop := s.length = n ∧ ∀ c ∈ TL.tl s, 97 ≤ c ∧ c ≤ 122
/-- a word with a letter put in -/
theorem word_in {n k : Nat} {s : Str} {c : Nat} (w : WordOk n s) (hk : k ≤ n) (hn : n ≤ 7) (hc : 97 ≤ c ∧ c ≤ 122) : NameOk (cutS s none (some (k : Int)) ++ (⟨#[c]⟩ : Str) ++ cutS s (some (k : Int)) none) ∧ (TL.tl (cutS s none (some (k : Int)) ++ (⟨#[c]⟩ : Str) ++ cutS s (some (k : Int)) none))[k]? = some c := by
  have hl : k ≤ s.length := by rw [w.1]; exact hk
  have e : TL.tl (cutS s none (some (k : Int)) ++ (⟨#[c]⟩ : Str) ++ cutS s (some (k : Int)) none) = (TL.tl s).take k ++ ([c] ++ (TL.tl s).drop k) := by
    rw [TL.tl_append, TL.tl_append, cut_to hl, cut_from hl, List.append_assoc]
  have ls := tl_lenJ s
  have w1 := w.1
  have lt : ((TL.tl s).take k).length = k := by rw [List.length_take]; omega
  have ll : ((TL.tl s).take k ++ ([c] ++ (TL.tl s).drop k)).length = n + 1 := by
    rw [List.length_append, List.length_append, lt, List.length_singleton, List.length_drop]
    omega
  refine ⟨⟨?_, ?_, fun x hx => ?_⟩, ?_⟩
  · rw [tl_lenJ, e, ll]; omega
  · rw [tl_lenJ, e, ll]; omega
  · have hx : x ∈ TL.tl (cutS s none (some (k : Int)) ++ (⟨#[c]⟩ : Str) ++ cutS s (some (k : Int)) none) := hx
    rw [e, List.mem_append, List.mem_append, List.mem_singleton] at hx
    rcases hx with hx | rfl | hx
    · exact w.2 x (List.mem_of_mem_take hx)
    · exact hc
    · exact w.2 x (List.mem_of_mem_drop hx)
  · rw [e, List.getElem?_append_right (by omega), lt, Nat.sub_self]
    rfl
namespace J
section
variable {P : Program} {w : World} {K : PySem.W.Frag} {mg : Str → Option Value} {base : Heap}
def spWCells (K : PySem.W.Frag) : Sp := fun vs H Q _ => ∃ p : Addr, vs = [.ref p] ∧ PoolAt H p ∧ ∀ (l : Addr) (ys : List V) (cs : List (Int × Int)) (H' : Hp), But p H H' → PoolAt H' p → H l = none → l ≠ p → H' l = some (.lst ys) → DpAll K H' ys (cs.map cellD) → (1 ≤ cs.length ∧ cs.length ≤ 6) → (∀ c ∈ cs, CellOk c) → Q (.ref l) H'
theorem ca_l_wide_cells (T : Txt w K mg) : Ca P w K mg base 3 "_law_wide_cells" (spWCells K) := by
  refine ca_of (N := ["_law_pool_here", "_law_cells", "_law_k", "_law_size"]) (ps := ["_law_pool_here"]) T.f_l_wide_cells T.g_law_wide_cells ⟨rfl, rfl, rfl, by decide +kernel, rfl, by decide +kernel, by decide +kernel⟩ (fun _ _ _ _ _ _ us hl => match us, hl with | [_], _ => rfl)
    (fun vs H Q E h => by obtain ⟨p, rfl, hp, q⟩ := h; rfl) (fun cdv A outer s H vs Q E hr h => ?_)
  have nd : (["_law_pool_here", "_law_cells", "_law_k", "_law_size"] : List Str).Nodup := by decide +kernel
  obtain ⟨p, rfl, hp, q⟩ := h
  refine ⟨_, (pss_cons (ps_set (i := 1) nd rfl (.inl rfl) (pe_lst pa_nil))
      (pss_cons (ps_for PassesOwn.never rfl (pi_range1 rfl T.b_range (pa_cons (pe_op op_add pe_int (pe_ca (ca_l_draw T) hr (pa_cons (pv 0) (pa_cons pe_int pa_nil)))) pa_nil)) (pg_name (i := 2) nd rfl (.inl rfl)) (pss_cons (ps_set (i := 3) nd rfl (.inl rfl) (pe_op op_add pe_int (pe_ca (ca_l_draw T) hr (pa_cons (pv 0) (pa_cons pe_int pa_nil)))))
      (pss_one (ps_expr (pe_bm PySem.F.plainAttrs_list PySem.F.slot_list_append PySem.F.type_list_append mt_append (pv 1) (pa_cons (pe_tup (pa_cons (pv 3) (pa_cons (pe_ca (ca_l_draw T) hr (pa_cons (pv 0) (pa_cons (pv 3) pa_nil))) pa_nil))) pa_nil))))))
      (pss_one (ps_ret (pv 1))))), ?_⟩
  refine ⟨(by show 0 ≤ sizeLine; exact Nat.zero_le _), fun l nl => ?_⟩
  have nlp := pool_nl hp nl
  have s0 : Same H (upd H l (.lst [])) := same_new nl
  have hl0 : upd H l (.lst []) l = some (.lst []) := upd_same
  have hp0 := hp.same s0
  generalize upd H l (.lst []) = H0 at s0 hl0 hp0 ⊢
  refine ⟨_, rfl, p, 6, rfl, hp0, by omega, fun n H1 b1 p1 hn => ⟨_, _, rfl, rfl, _, rfl, by omega, by omega, ?_⟩⟩
  refine for_it (n := (1 + n).toNat) walk_range (fun i σ' H' => ∃ (x y : Option V) (ys : List V) (cs : List (Int × Int)), σ' = [some (.ref p), some (.ref l), x, y] ∧ But p H H' ∧ PoolAt H' p ∧ H' l = some (.lst ys) ∧ DpAll K H' ys (cs.map cellD) ∧ cs.length = i ∧ ∀ c ∈ cs, CellOk c) ⟨none, none, [], [], rfl, fun b o h e => b1 _ _ h (s0 _ _ e), p1, b1 _ _ nlp hl0, .nil, rfl, fun c h => by cases h⟩ (fun _ _ _ _ _ => trivial) ?_ ?_
  · rintro i z σ' Hz H' hi ⟨_, _, ys, cs, rfl, bt, pt, hl, hys, el, hcs⟩ ⟨rfl, rfl⟩
    have lys : ys.length = cs.length := by rw [dps_len hys, List.length_map]
    refine ⟨_, rfl, p, 9, rfl, pt, by omega, fun j H2 b2 p2 hj => ⟨_, _, rfl, rfl, ?_⟩⟩
    have hl2 := b2 _ _ nlp hl
    refine ⟨_, rfl, .inl ⟨rfl, _, .of hl2⟩, _, rfl, _, rfl, _, rfl, p, 1 + j, rfl, p2, by omega, fun k H3 b3 p3 hk3 => ⟨(by show 2 ≤ sizeLine; decide), fun t nt => ?_⟩⟩
    have s3 : Same H3 (upd H3 t (.tup [.int (1 + j), .int k])) := same_new nt
    have hl3 := s3 _ _ (b3 _ _ nlp hl2)
    have ht3 : upd H3 t (.tup [.int (1 + j), .int k]) t = some (.tup [.int (1 + j), .int k]) := upd_same
    have bb : But p H' (upd H3 t (.tup [.int (1 + j), .int k])) := (b2.trans b3).trans (same_but s3)
    have p4 := p3.same s3
    generalize upd H3 t (.tup [.int (1 + j), .int k]) = H4 at s3 hl3 ht3 bb p4 ⊢
    have b5 : But l H4 (upd H4 l (.lst (ys ++ [.ref t]))) := But.upd
    refine ⟨l, ys, _, rfl, rfl, hl3, by rw [sizeLine_eq]; omega, _, _, ys ++ [.ref t], cs ++ [(1 + j, k)], rfl, fun a o h e => b5 _ _ (ne_of_none e nl) (bb _ _ h (bt _ _ h e)), p4.but (Ne.symm nlp) b5, upd_same, ?_, by simp [el], fun c hc => ?_⟩
    · rw [List.map_append]
      refine dps_app (dps_but (.lst hl3) b5 (dps_but pt.ch bb hys (cells_noL cs)) (cells_noL cs)) (.cons (dp_but (.lst hl3) b5 (.tup (.of ht3) (.cons (.int _) (.cons (.int _) .nil))) (cell_noL (1 + j, k))) .nil)
    · rcases List.mem_append.mp hc with h | h
      · exact hcs c h
      · rw [List.mem_singleton.mp h]
        exact ⟨by show 1 ≤ 1 + j; omega, by show 1 + j ≤ 9; omega, hk3⟩
  · rintro σ' H' ⟨_, _, ys, cs, rfl, bt, pt, hl, hys, el, hcs⟩
    exact ⟨_, rfl, q l ys cs H' bt pt nl nlp hl hys ⟨by omega, by omega⟩ hcs⟩
def spWDeeds (K : PySem.W.Frag) : Sp := fun vs H Q _ => ∃ (p : Addr) (many coins : Int), vs = [.ref p, .int many, .int coins] ∧ PoolAt H p ∧ (1 ≤ many ∧ many ≤ 6) ∧ (0 ≤ coins ∧ coins ≤ 4) ∧
  ∀ (l : Addr) (ys : List V) (ds : List (Str × Int × List Row)) (H' : Hp), But p H H' → PoolAt H' p → H l = none → l ≠ p → H' l = some (.lst ys) → DpAll K H' ys (ds.map deedD) → (1 ≤ ds.length ∧ ds.length ≤ 8) → (∀ d ∈ ds, DeedOk many d) → (ds.map (·.1)).Nodup → Q (.ref l) H'
theorem ca_l_wide_deeds (T : Txt w K mg) : Ca P w K mg base 15 "_law_wide_deeds" (spWDeeds K) := by
  refine ca_of (N := ["_law_pool_here", "_law_many", "_law_coins", "_law_letters", "_law_size", "_law_at", "_law_turn", "_law_alike", "_law_start", "_law_deeds", "_law_k", "_law_name_here", "_law_choices_here"]) (ps := ["_law_pool_here", "_law_many", "_law_coins"]) T.f_l_wide_deeds T.g_law_wide_deeds ⟨rfl, rfl, rfl, by decide +kernel, rfl, by decide +kernel, by decide +kernel⟩ (fun _ _ _ _ _ _ us hl => match us, hl with | [_, _, _], _ => rfl)
    (fun vs H Q E h => by obtain ⟨p, many, coins, rfl, hp, hmany, hcoins, q⟩ := h; rfl) (fun cdv A outer s H vs Q E hr h => ?_)
  have nd : (["_law_pool_here", "_law_many", "_law_coins", "_law_letters", "_law_size", "_law_at", "_law_turn", "_law_alike", "_law_start", "_law_deeds", "_law_k", "_law_name_here", "_law_choices_here"] : List Str).Nodup := by decide +kernel
  obtain ⟨p, many, coins, rfl, hp, hmany, hcoins, q⟩ := h
  refine ⟨_, (pss_cons (ps_set (i := 3) nd rfl (.inr rfl) pe_str)
      (pss_cons (ps_set (i := 4) nd rfl (.inl rfl) (pe_ca (ca_l_draw T) hr (pa_cons (pv 0) (pa_cons pe_int pa_nil))))
      (pss_cons (ps_set (i := 5) nd rfl (.inl rfl) (pe_ca (ca_l_draw T) hr (pa_cons (pv 0) (pa_cons (pe_op op_add (pv 4) pe_int) pa_nil))))
      (pss_cons (ps_set (i := 7) nd rfl (.inl rfl) (pe_join pe_str (pe_lc (own := [("_law_turn", 6)]) (tt := tYes) rfl nd (pi_range1 rfl T.b_range (pa_cons (pv 4) pa_nil)) (blkOk_by (N := ["_law_pool_here", "_law_many", "_law_coins", "_law_letters", "_law_size", "_law_at", "_law_turn", "_law_alike", "_law_start", "_law_deeds", "_law_k", "_law_name_here", "_law_choices_here"]) (sc := defScope s_l_wide_deeds) (by decide +kernel)) (fun _ _ _ _ _ => pg_name (i := 6) nd rfl (.inl rfl)) (fun _ _ _ _ _ => pts_nil) (fun _ _ _ _ _ => pe_ix ix_str (pv 3) (pe_ca (ca_l_draw T) hr (pa_cons (pv 0) (pa_cons pe_int pa_nil))) (fun _ _ => rfl)))))
      (pss_cons (ps_set (i := 8) nd rfl (.inl rfl) (pe_ca (ca_l_draw T) hr (pa_cons (pv 0) (pa_cons pe_int pa_nil))))
      (pss_cons (ps_set (i := 9) nd rfl (.inl rfl) (pe_lst pa_nil))
      (pss_cons (ps_for PassesOwn.never rfl (pi_range1 rfl T.b_range (pa_cons (pe_op op_add pe_int (pe_ca (ca_l_draw T) hr (pa_cons (pv 0) (pa_cons pe_int pa_nil)))) pa_nil)) (pg_name (i := 10) nd rfl (.inl rfl)) (pss_cons (ps_set (i := 11) nd rfl (.inl rfl) (pv 7))
      (C8.pss_cut (ps_if (pt_cmpR op_eq (pe_ca (ca_l_draw T) hr (pa_cons (pv 0) (pa_cons pe_int pa_nil))) pe_int (nomark _)) (pss_one (ps_set (i := 11) nd rfl (.inl rfl) (pe_join pe_str (pe_lc (own := [("_law_turn", 6)]) (tt := tYes) rfl nd (pi_range1 rfl T.b_range (pa_cons (pv 4) pa_nil)) (blkOk_by (N := ["_law_pool_here", "_law_many", "_law_coins", "_law_letters", "_law_size", "_law_at", "_law_turn", "_law_alike", "_law_start", "_law_deeds", "_law_k", "_law_name_here", "_law_choices_here"]) (sc := defScope s_l_wide_deeds) (by decide +kernel)) (fun _ _ _ _ _ => pg_name (i := 6) nd rfl (.inl rfl)) (fun _ _ _ _ _ => pts_nil) (fun _ _ _ _ _ => pe_ix ix_str (pv 3) (pe_ca (ca_l_draw T) hr (pa_cons (pv 0) (pa_cons pe_int pa_nil))) (fun _ _ => rfl)))))) pss_nil)
      (pss_cons (ps_set (i := 11) nd rfl (.inl rfl) (pe_op op_add_str (pe_op op_add_str (pe_slice sl_str (pv 11) po_none (po_some (pv 5))) (pe_ix ix_str (pv 3) (pe_op op_mod (pe_op op_add (pv 8) (pe_op op_mul pe_int (pv 10))) pe_int) (fun _ _ => rfl))) (pe_slice sl_str (pv 11) (po_some (pv 5)) po_none)))
      (pss_cons (ps_set (i := 12) nd rfl (.inl rfl) (pe_op op_add pe_int (pe_ca (ca_l_draw T) hr (pa_cons (pv 0) (pa_cons pe_int pa_nil)))))
      (pss_one (ps_expr (pe_bm PySem.F.plainAttrs_list PySem.F.slot_list_append PySem.F.type_list_append mt_append (pv 9) (pa_cons (pe_tup (pa_cons (pv 11) (pa_cons (pv 12) (pa_cons (pe_ca (ca_l_body T) hr (pa_cons (pv 0) (pa_cons (pv 1) (pa_cons (pv 2) pa_nil)))) pa_nil)))) pa_nil)))))))))
      (pss_one (ps_ret (pv 9)))))))))), ?_⟩
  refine ⟨_, rfl, p, 8, rfl, hp, by omega, fun sz H1 b1 p1 hsz => ⟨_, rfl, _, rfl, _, _, rfl, rfl, p, sz + 1, rfl, p1, by omega, fun at_ H2 b2 p2 hat => ?_⟩⟩
  obtain ⟨n, rfl⟩ : ∃ n : Nat, sz = (n : Int) := ⟨sz.toNat, by omega⟩
  obtain ⟨k, rfl⟩ : ∃ k : Nat, at_ = (k : Int) := ⟨at_.toNat, by omega⟩
  have b02 := b1.trans b2
  refine ⟨⟨_, rfl⟩, _, rfl, n, rfl, by omega, by omega, fun D nD => ?_⟩
  have nDp := pool_nl p2 nD
  refine it_any (n := (n : Int).toNat) walk_range (fun i J => ∃ ss : List Str, But p H2 J ∧ PoolAt J p ∧ J D = some (.lst (ss.map V.str)) ∧ ss.length = i ∧ ∀ s ∈ ss, ∃ c, s = ⟨#[c]⟩ ∧ 97 ≤ c ∧ c ≤ 122) ⟨[], same_but (same_new nD), p2.same (same_new nD), upd_same, rfl, fun s h => by cases h⟩ (fun _ _ _ _ => trivial) ?_ ?_
  · rintro j z J0 J hj ⟨ss, bj, pj, hD, el, hss⟩ ⟨rfl, rfl⟩
    refine ⟨rfl, _, rfl, _, rfl, p, 26, rfl, pj, by omega, fun c J2 b6 p6 hc => ?_⟩
    have hat := let26 hc
    have hD2 := b6 _ _ nDp hD
    have bb : But D J2 (upd J2 D (.lst (ss.map V.str ++ [.str ⟨#[97 + c.toNat]⟩]))) := But.upd
    refine ⟨_, c, 97 + c.toNat, rfl, rfl, (by decide +kernel), hat, ss.map V.str, hD2, by rw [List.length_map, sizeLine_eq]; omega, ss ++ [⟨#[97 + c.toNat]⟩], fun a o h e => bb _ _ (ne_of_none e nD) (b6 _ _ h (bj _ _ h e)), p6.but (Ne.symm nDp) bb, by rw [List.map_append]; exact upd_same, by simp [el], fun s hs => ?_⟩
    rcases List.mem_append.mp hs with hs | hs
    · exact hss s hs
    · rw [List.mem_singleton.mp hs]
      exact ⟨_, rfl, by omega, by omega⟩
  rintro H3 ⟨ss, bj, pj, hD, el, hss⟩
  obtain ⟨j1, j2⟩ := join_letters hss
  have sum1 : ∀ ss : List Str, (∀ s ∈ ss, ∃ c, s = (⟨#[c]⟩ : Str) ∧ 97 ≤ c ∧ c ≤ 122) → (ss.map (·.length)).sum ≤ ss.length := by
    intro ss hss
    induction ss with
    | nil => exact Nat.le_refl _
    | cons s r ih =>
      obtain ⟨c, rfl, _⟩ := hss s List.mem_cons_self
      have := ih fun x hx => hss x (List.mem_cons_of_mem _ hx)
      rw [List.map_cons, List.sum_cons, List.length_cons]
      show 1 + _ ≤ _
      omega
  have e0 : ("" : Str).length = 0 := by decide +kernel
  have aw : WordOk n (Txt.join ("" : Str) ss) := ⟨by rw [str_len, j1, el]; omega, j2⟩
  refine ⟨_, D, ss, rfl, rfl, .inl (.of hD), by have := sum1 ss hss; rw [e0]; omega, ?_⟩
  generalize Txt.join ("" : Str) ss = al at aw ⊢
  have b03 := b02.trans bj
  clear hD el hss j1 j2 bj
  refine ⟨_, rfl, p, 26, rfl, pj, by omega, fun st H4 b4 p4 hst => ⟨(by show 0 ≤ sizeLine; exact Nat.zero_le _), fun l nl => ?_⟩⟩
  have b04 := b03.trans b4
  have nlp := pool_nl p4 nl
  have nlH : H l = none := by
    cases e : H l with
    | none => rfl
    | some o => rw [b04 _ _ nlp e] at nl; cases nl
  have s5 : Same H4 (upd H4 l (.lst [])) := same_new nl
  have hl5 : upd H4 l (.lst []) l = some (.lst []) := upd_same
  have p5 := p4.same s5
  have b05 := b04.trans (same_but s5)
  generalize upd H4 l (.lst []) = H5 at s5 hl5 p5 b05 ⊢
  refine ⟨_, rfl, p, 8, rfl, p5, by omega, fun nd_ H6 b6 p6 hnd => ⟨_, _, rfl, rfl, _, rfl, by omega, by omega, ?_⟩⟩
  refine for_it (n := (1 + nd_).toNat) walk_range (fun i σ' H' => ∃ (x6 x10 x11 x12 : Option V) (ys : List V) (ds : List (Str × Int × List Row)), σ' = [some (.ref p), some (.int many), some (.int coins), some (.str "abcdefghijklmnopqrstuvwxyz"), some (.int n), some (.int k), x6, some (.str al), some (.int st), some (.ref l), x10, x11, x12] ∧ But p H H' ∧ PoolAt H' p ∧ H' l = some (.lst ys) ∧ DpAll K H' ys (ds.map deedD) ∧ ds.length = i ∧ (∀ d ∈ ds, DeedOk many d) ∧ ∀ (j : Nat) (d : Str × Int × List Row), ds[j]? = some d → (TL.tl d.1)[k]? = some (97 + ((st + 11 * (0 + (j : Nat))) % 26).toNat)) ⟨_, none, none, none, [], [], rfl, b05.trans b6, p6, b6 _ _ nlp hl5, .nil, rfl, (fun d h => nomatch h), (fun j d h => by simp at h)⟩ (fun _ _ _ _ _ => trivial) ?_ ?_
  · rintro i z σ' Hz H' hi ⟨_, _, _, _, ys, ds, rfl, bt, pt, hl, hys, hlen, hds, hen⟩ ⟨rfl, rfl⟩
    have lys : ys.length = i := by rw [dps_len hys, List.length_map, hlen]
    refine ⟨_, rfl, ?_⟩
    refine ⟨fun σ' J => ∃ (x6 x12 : Option V) (nm : Str), σ' = [some (.ref p), some (.int many), some (.int coins), some (.str "abcdefghijklmnopqrstuvwxyz"), some (.int n), some (.int k), x6, some (.str al), some (.int st), some (.ref l), some (.int (0 + (i : Nat))), some (.str nm), x12] ∧ But p H' J ∧ PoolAt J p ∧ WordOk n nm, ?_, ?_⟩
    · refine ⟨_, rfl, p, 2, rfl, pt, by omega, fun u J1 b7 p7 hu => ⟨rfl, _, rfl, ?_⟩⟩
      by_cases c : u = 1
      · rw [decide_eq_true (show V.int u = V.int 1 from congrArg V.int c)]
        refine iteT ⟨⟨_, rfl⟩, _, rfl, n, rfl, by omega, by omega, fun D nD => ?_⟩
        have nDp := pool_nl p7 nD
        refine it_any (n := (n : Int).toNat) walk_range (fun i J => ∃ ss : List Str, But p J1 J ∧ PoolAt J p ∧ J D = some (.lst (ss.map V.str)) ∧ ss.length = i ∧ ∀ s ∈ ss, ∃ c, s = ⟨#[c]⟩ ∧ 97 ≤ c ∧ c ≤ 122) ⟨[], same_but (same_new nD), p7.same (same_new nD), upd_same, rfl, fun s h => by cases h⟩ (fun _ _ _ _ => trivial) ?_ ?_
        · rintro j z J0 J hj ⟨ss, bj, pj, hD, el, hss⟩ ⟨rfl, rfl⟩
          refine ⟨rfl, _, rfl, _, rfl, p, 26, rfl, pj, by omega, fun c J2 b6 p6 hc => ?_⟩
          have hat := let26 hc
          have hD2 := b6 _ _ nDp hD
          have bb : But D J2 (upd J2 D (.lst (ss.map V.str ++ [.str ⟨#[97 + c.toNat]⟩]))) := But.upd
          refine ⟨_, c, 97 + c.toNat, rfl, rfl, (by decide +kernel), hat, ss.map V.str, hD2, by rw [List.length_map, sizeLine_eq]; omega, ss ++ [⟨#[97 + c.toNat]⟩], fun a o h e => bb _ _ (ne_of_none e nD) (b6 _ _ h (bj _ _ h e)), p6.but (Ne.symm nDp) bb, by rw [List.map_append]; exact upd_same, by simp [el], fun s hs => ?_⟩
          rcases List.mem_append.mp hs with hs | hs
          · exact hss s hs
          · rw [List.mem_singleton.mp hs]
            exact ⟨_, rfl, by omega, by omega⟩
        rintro J2 ⟨ss, bj, pj, hD, el, hss⟩
        obtain ⟨j1, j2⟩ := join_letters hss
        exact ⟨_, D, ss, rfl, rfl, .inl (.of hD), by have := sum1 ss hss; rw [e0]; omega, _, _, Txt.join ("" : Str) ss, rfl, b7.trans bj, pj, by rw [str_len, j1, el]; omega, j2⟩
      · rw [decide_eq_false (show ¬ V.int u = V.int 1 from fun z => c (V.int.inj z))]
        exact iteF ⟨_, _, al, rfl, b7, p7, aw⟩
    rintro σ' J ⟨x6, x12, nm, rfl, bJ, pJ, wn⟩
    have ln : nm.length = n := wn.1
    have hidx : 0 ≤ (st + 11 * (0 + (i : Nat))) % 26 ∧ (st + 11 * (0 + (i : Nat))) % 26 < 26 := by omega
    have hz : nm.length ≤ sizeLine := by rw [sizeLine_eq]; omega
    have c1 := cutS_length nm none (some (k : Int))
    have c2 := cutS_length nm (some (k : Int)) none
    have l1 : ∀ c : Nat, (⟨#[c]⟩ : Str).length = 1 := fun _ => rfl
    obtain ⟨nok, nat⟩ := word_in (c := 97 + ((st + 11 * (0 + (i : Nat))) % 26).toNat) wn (k := k) (by omega) (by omega) (by omega)
    refine ⟨_, rfl, _, rfl, _, rfl, _, rfl, hz, _, rfl, _, rfl, _, rfl, _, _, rfl, rfl, .inl (by decide), _, _, rfl, rfl, _, _, rfl, rfl, (by show (0 : Int) < 26; decide), _, _, _, rfl, rfl, (by decide +kernel), let26 hidx, _, _, rfl, rfl, by rw [sizeLine_eq, l1]; omega, ?_⟩
    refine ⟨_, rfl, _, rfl, _, rfl, _, rfl, hz, _, _, rfl, rfl, by rw [sizeLine_eq, len_appJ, l1]; omega, ?_⟩
    generalize cutS nm none (some (k : Int)) ++ (⟨#[97 + ((st + 11 * (0 + (i : Nat))) % 26).toNat]⟩ : Str) ++ cutS nm (some (k : Int)) none = nm2 at nok nat ⊢
    refine ⟨_, rfl, p, 9, rfl, pJ, by omega, fun ch H7 b7 p7 hch => ⟨_, _, rfl, rfl, ?_⟩⟩
    have b17 := bJ.trans b7
    refine ⟨_, rfl, .inl ⟨rfl, _, .of (b17 _ _ nlp hl)⟩, _, rfl, _, rfl, _, rfl, _, rfl, _, rfl, p, many, coins, rfl, p7, hmany, hcoins, fun v rs H8 b8 p8 d8 ok cc cl mx => ⟨(by show 3 ≤ sizeLine; decide), fun t nt => ?_⟩⟩
    have s9 := same_new (o := .tup [.str nm2, .int (1 + ch), v]) nt
    have b19 : But p H' (upd H8 t (.tup [.str nm2, .int (1 + ch), v])) := (b17.trans b8).trans (same_but s9)
    have dd : Dp K (upd H8 t (.tup [.str nm2, .int (1 + ch), v])) (.ref t) (deedD (nm2, 1 + ch, rs)) := .tup (.of upd_same) (.cons (.str _) (.cons (.int _) (.cons (dp_same s9 d8) .nil)))
    have hl9 := b19 _ _ nlp hl
    have p9 := p8.same s9
    generalize upd H8 t (.tup [.str nm2, .int (1 + ch), v]) = H9 at s9 b19 dd hl9 p9 ⊢
    have bb : But l H9 (upd H9 l (.lst (ys ++ [.ref t]))) := But.upd
    refine ⟨l, ys, _, rfl, rfl, hl9, by rw [sizeLine_eq]; omega, _, _, _, _, ys ++ [.ref t], ds ++ [(nm2, 1 + ch, rs)], rfl, fun a o h e => bb _ _ (ne_of_none e nlH) (b19 _ _ h (bt _ _ h e)), p9.but (Ne.symm nlp) bb, upd_same, ?_, by simp [hlen], fun d hd => ?_, fun a d hd => ?_⟩
    · rw [List.map_append]
      exact dps_app (dps_but (.lst hl9) bb (dps_but pt.ch b19 hys (deeds_noL ds)) (deeds_noL ds)) (.cons (dp_but (.lst hl9) bb dd (deed_noL _)) .nil)
    · rcases List.mem_append.mp hd with h | h
      · exact hds d h
      · rw [List.mem_singleton.mp h]
        exact ⟨nok, ⟨by show 1 ≤ 1 + ch; omega, by show 1 + ch ≤ 9; omega⟩, ok, cc.1, cl⟩
    · by_cases c : a < ds.length
      · rw [List.getElem?_append_left c] at hd
        exact hen a d hd
      · rw [List.getElem?_append_right (by omega)] at hd
        have e0 : a - ds.length = 0 := by
          cases h : a - ds.length with
          | zero => rfl
          | succ k => rw [h] at hd; simp at hd
        rw [e0] at hd
        cases (Option.some.inj hd)
        have : a = i := by omega
        rw [this]
        exact nat
  · rintro σ' H' ⟨_, _, _, _, ys, ds, rfl, bt, pt, hl, hys, hlen, hds, hen⟩
    refine ⟨_, rfl, q l ys ds H' bt pt nlH nlp hl hys ⟨by omega, by omega⟩ hds ?_⟩
    refine List.pairwise_iff_getElem.mpr fun a b ha hb hab e => ?_
    rw [List.length_map] at ha hb
    rw [List.getElem_map, List.getElem_map] at e
    have h1 := hen a _ (List.getElem?_eq_getElem ha)
    have h2 := hen b _ (List.getElem?_eq_getElem hb)
    rw [e, h2] at h1
    have := Option.some.inj h1
    omega
end
end J

end M

set_option Elab.async false
set_option linter.all false
set_option maxRecDepth 100000
set_option maxHeartbeats 2000000
namespace M
open PySem PySem.Spec PyProof.Rows L2

theorem dps_takeW {K : PySem.W.Frag} {H : Hp} : ∀ {xs : List V} {ds : List PyData} (n : Nat), DpAll K H xs ds → DpAll K H (xs.take n) (ds.take n)
  | _, _, 0, _ => .nil
  | _, _, n + 1, .nil => .nil
  | _, _, n + 1, .cons h r => .cons h (dps_takeW n r)
theorem dps_dropW {K : PySem.W.Frag} {H : Hp} : ∀ {xs : List V} {ds : List PyData} (n : Nat), DpAll K H xs ds → DpAll K H (xs.drop n) (ds.drop n)
  | _, _, 0, h => h
  | _, _, n + 1, .nil => .nil
  | _, _, n + 1, .cons h r => dps_dropW n r
/-- a part of data -/
theorem cut_dps {K : PySem.W.Frag} {H : Hp} {xs : List V} {ds : List PyData} (lo hi : Option Int) (h : DpAll K H xs ds) : ∃ es, DpAll K H (cutV xs lo hi) es ∧ (∀ d ∈ es, d ∈ ds) ∧ es.length ≤ ds.length := by
  refine ⟨_, dps_takeW _ (dps_dropW _ h), fun d hd => List.mem_of_mem_drop (List.mem_of_mem_take hd), ?_⟩
  rw [List.length_take, List.length_drop]
  omega
section
variable {K : PySem.W.Frag} {H : Hp} {Q : VK} {a b : Addr} {xs ys : List V} {ds es : List PyData}
theorem slA_dp (lo hi : Option Int) (ha : SqT K H a xs) (hd : DpAll K H xs ds) (q : ∀ (r : Addr) (ys : List V) (es : List PyData) (H' : Hp), Same H H' → SqT K H' r ys → DpAll K H' ys es → (∀ d ∈ es, d ∈ ds) → es.length ≤ ds.length → Q (.ref r) H') : rSlA K (.ref a) lo hi H Q := by
  refine ⟨a, xs, rfl, ha, fun _ => q a xs ds H (Same.refl _) ha hd (fun d h => h) (Nat.le_refl _), fun _ p np => ?_⟩
  obtain ⟨es, h1, h2, h3⟩ := cut_dps lo hi hd
  exact q p _ es _ (same_new np) (.of upd_same) (dps_same (same_new np) h1) h2 h3
theorem catA_dp (ha : SqT K H a xs) (hx : DpAll K H xs ds) (hb : SqT K H b ys) (hy : DpAll K H ys es) (len : ds.length + es.length ≤ 100000) (q : ∀ (r : Addr) (zs : List V) (H' : Hp), Same H H' → SqT K H' r zs → DpAll K H' zs (ds ++ es) → Q (.ref r) H') : rCatA K (.ref a) (.ref b) H Q := by
  have l1 := dps_len hx
  have l2 := dps_len hy
  refine ⟨a, b, xs, ys, rfl, rfl, ha, hb, by rw [sizeLine_eq]; omega, fun e => ?_, fun _ e => ?_, fun _ _ p np => q p _ _ (same_new np) (.of upd_same) (dps_app (dps_same (same_new np) hx) (dps_same (same_new np) hy))⟩
  · subst e
    cases hx
    exact q b ys H (Same.refl _) hb hy
  · subst e
    cases hy
    refine q a xs H (Same.refl _) ha ?_
    rw [List.append_nil]
    exact hx
end
/-- what tuples of these are -/
theorem fit_tup {n : Nat} {ds : List PyData} (l : ds.length ≤ 100000) (h : ∀ d ∈ ds, fit n d) : fit (n + 1) (.tuple ds) := ⟨l, h⟩
theorem fit_lst {n : Nat} {ds : List PyData} (l : ds.length ≤ 100000) (h : ∀ d ∈ ds, fit n d) : fit (n + 1) (.list ds) := ⟨l, h⟩
theorem fitT_of {d : PyData} (h : fit 58 d) : fitT (some d) := fun e he _ => by
  cases he
  exact h
theorem fitT_str (s : Str) : fitT (some (.str s)) := fun e he n => by
  cases he
  exact absurd rfl (n s)
theorem fitT_none : fitT none := fun _ e => nomatch e
namespace J
section
variable {P : Program} {w : World} {K : PySem.W.Frag} {mg : Str → Option Value} {base : Heap}
def spOddT (K : PySem.W.Frag) : Sp := fun vs H Q _ => ∃ (p : Addr), vs = [.ref p] ∧ PoolAt H p ∧ ∀ (v : V) (o : Option PyData) (H' : Hp), But p H H' → PoolAt H' p → Tg K H' v o → fitT o → Q v H'
theorem ca_l_odd (T : Txt w K mg) : Ca P w K mg base 2 "_law_odd" (spOddT K) := by
  refine ca_of (N := ["_law_pool_here", "_law_kind", "_law_thing", "_law_turn"]) (ps := ["_law_pool_here"]) T.f_l_odd T.g_law_odd ⟨rfl, rfl, rfl, by decide +kernel, rfl, by decide +kernel, by decide +kernel⟩ (fun _ _ _ _ _ _ us hl => match us, hl with | [_], _ => rfl)
    (fun vs H Q E h => by obtain ⟨p, rfl, hp, q⟩ := h; rfl) (fun cdv A outer s H vs Q E hr h => ?_)
  have nd : (["_law_pool_here", "_law_kind", "_law_thing", "_law_turn"] : List Str).Nodup := by decide +kernel
  obtain ⟨p, rfl, hp, q⟩ := h
  refine ⟨_, (pss_cons (ps_set (i := 1) nd rfl (.inl rfl) (pe_ca (ca_l_draw T) hr (pa_cons (pv 0) (pa_cons pe_int pa_nil))))
      (pss_cons (ps_if (pt_cmpR op_eq (pv 1) pe_int (nomark _)) (pss_one (ps_ret pe_non)) pss_nil)
      (pss_cons (ps_if (pt_cmpR op_lt (pv 1) pe_int (nomark _)) (pss_one (ps_ret (pe_cmpR op_eq (pv 1) pe_int (nomark _)))) pss_nil)
      (pss_cons (ps_if (pt_cmpR op_lt (pv 1) pe_int (nomark _)) (pss_one (ps_ret (pe_ix ix_list (pe_lst (pa_cons (pe_un un_neg pe_int) (pa_cons pe_int (pa_cons (pe_op op_add (pe_op op_pow pe_int pe_int) pe_int) (pa_cons (pe_un un_neg (pe_op op_pow pe_int pe_int)) pa_nil))))) (pe_op op_sub (pv 1) pe_int) (fun _ _ => rfl)))) pss_nil)
      (pss_cons (ps_if (pt_cmpR op_lt (pv 1) pe_int (nomark _)) (pss_one (ps_ret (pe_ix ix_list (pe_lst (pa_cons pe_str (pa_cons pe_str (pa_cons pe_str pa_nil)))) (pe_op op_sub (pv 1) pe_int) (fun _ _ => rfl)))) pss_nil)
      (pss_cons (ps_if (pt_cmpR op_lt (pv 1) pe_int (nomark _)) (pss_one (ps_ret (pe_ix ix_list (pe_lst (pa_cons (pe_tup pa_nil) (pa_cons (pe_lst pa_nil) (pa_cons (pe_tup (pa_cons pe_str (pa_cons pe_str (pa_cons pe_int pa_nil)))) (pa_cons (pe_lst (pa_cons pe_int (pa_cons pe_int pa_nil))) pa_nil))))) (pe_op op_sub (pv 1) pe_int) (fun _ _ => rfl)))) pss_nil)
      (pss_cons (ps_if (pt_cmpR op_eq (pv 1) pe_int (nomark _)) (pss_one (ps_ret (pe_disp (pps_cons pe_str pe_int pps_nil) rfl rfl (List.cons_ne_nil _ _) (by decide)))) pss_nil)
      (pss_cons (ps_set (i := 2) nd rfl (.inl rfl) (pe_ca (ca_l_draw T) hr (pa_cons (pv 0) (pa_cons pe_int pa_nil))))
      (pss_cons (ps_for PassesOwn.never rfl (pi_range1 rfl T.b_range (pa_cons (pe_op op_add pe_int (pe_ca (ca_l_draw T) hr (pa_cons (pv 0) (pa_cons pe_int pa_nil)))) pa_nil)) (pg_name (i := 3) nd rfl (.inl rfl)) (pss_one (ps_set (i := 2) nd rfl (.inl rfl) (pe_tup (pa_cons (pv 2) pa_nil)))))
      (pss_one (ps_ret (pv 2)))))))))))), ?_⟩
  refine ⟨_, rfl, p, 16, rfl, hp, by omega, fun k H1 b1 p1 hk => ?_⟩
  have dat : ∀ v d H2, Same H1 H2 → Dp K H2 v d → fit 58 d → Q v H2 := fun v d H2 s h f => q v (some d) H2 (b1.trans (same_but s)) (p1.same s) (.dat h) (fitT_of f)
  refine ⟨_, rfl, rfl, _, rfl, ?_⟩
  by_cases c0 : k = 0
  · rw [decide_eq_true (show V.int k = V.int 0 from congrArg V.int c0)]
    exact iteT (dat _ _ H1 (Same.refl _) .non trivial)
  rw [decide_eq_false (show ¬ V.int k = V.int 0 from fun z => c0 (V.int.inj z))]
  refine iteF ⟨_, rfl, _, _, rfl, rfl, _, rfl, ?_⟩
  by_cases c3 : k < 3
  · rw [decide_eq_true c3]
    exact iteT ⟨_, rfl, rfl, dat _ (.bool _) H1 (Same.refl _) (.bl _) trivial⟩
  rw [decide_eq_false c3]
  refine iteF ⟨_, rfl, _, _, rfl, rfl, _, rfl, ?_⟩
  by_cases c7 : k < 7
  · rw [decide_eq_true c7]
    refine iteT ⟨_, rfl, _, _, rfl, rfl, ⟨by decide, by decide, by decide⟩, _, _, rfl, rfl, _, _, rfl, rfl, ⟨by decide, by decide, by decide⟩, _, rfl, (by show 4 ≤ sizeLine; decide), fun L nL => ?_⟩
    have sL := same_new (o := .lst [.int (-1), .int 10, .int (10 ^ (20 : Int).toNat + 7), .int (-(10 ^ (9 : Int).toNat))]) nL
    refine ⟨_, rfl, _, _, rfl, rfl, ?_⟩
    have : k = 3 ∨ k = 4 ∨ k = 5 ∨ k = 6 := by omega
    rcases this with rfl | rfl | rfl | rfl
    · exact ⟨L, _, _, _, rfl, rfl, .of upd_same, at0, dat _ _ _ sL (.int _) trivial⟩
    · exact ⟨L, _, _, _, rfl, rfl, .of upd_same, at1, dat _ _ _ sL (.int _) trivial⟩
    · exact ⟨L, _, _, _, rfl, rfl, .of upd_same, at2, dat _ _ _ sL (.int _) trivial⟩
    · exact ⟨L, _, _, _, rfl, rfl, .of upd_same, at3, dat _ _ _ sL (.int _) trivial⟩
  rw [decide_eq_false c7]
  refine iteF ⟨_, rfl, _, _, rfl, rfl, _, rfl, ?_⟩
  by_cases c10 : k < 10
  · rw [decide_eq_true c10]
    refine iteT ⟨(by show 3 ≤ sizeLine; decide), fun L nL => ⟨_, rfl, _, _, rfl, rfl, ?_⟩⟩
    have sL := same_new (o := .lst [.str "", .str "x", .str "coin"]) nL
    have sq : SqL K (upd H1 L (.lst [.str "", .str "x", .str "coin"])) L [.str "", .str "x", .str "coin"] := .of upd_same
    have fin : ∀ s : Str, Q (.str s) (upd H1 L (.lst [.str "", .str "x", .str "coin"])) := fun s => q _ (some (.str s)) _ (b1.trans (same_but sL)) (p1.same sL) (.dat (.str s)) (fitT_str s)
    have : k = 7 ∨ k = 8 ∨ k = 9 := by omega
    rcases this with rfl | rfl | rfl
    · exact ⟨L, _, _, _, rfl, rfl, sq, at0, fin _⟩
    · exact ⟨L, _, _, _, rfl, rfl, sq, at1, fin _⟩
    · exact ⟨L, _, _, _, rfl, rfl, sq, at2, fin _⟩
  rw [decide_eq_false c10]
  refine iteF ⟨_, rfl, _, _, rfl, rfl, _, rfl, ?_⟩
  by_cases c14 : k < 14
  · rw [decide_eq_true c14]
    refine iteT ⟨(by show 0 ≤ sizeLine; exact Nat.zero_le _), fun a na => ⟨(by show 0 ≤ sizeLine; exact Nat.zero_le _), fun b nb => ⟨(by show 3 ≤ sizeLine; decide), fun c nc => ⟨(by show 2 ≤ sizeLine; decide), fun d nd => ⟨(by show 4 ≤ sizeLine; decide), fun L nL => ?_⟩⟩⟩⟩⟩
    have sa := same_new (o := .tup []) na
    have ea : upd H1 a (.tup []) a = some (.tup []) := upd_same
    generalize upd H1 a (.tup []) = G1 at sa ea nb nc nd nL ⊢
    have sb := same_new (o := .lst []) nb
    have eb : upd G1 b (.lst []) b = some (.lst []) := upd_same
    generalize upd G1 b (.lst []) = G2 at sb eb nc nd nL ⊢
    have sc := same_new (o := .tup [.str "read", .str "a", .int 0]) nc
    have ec : upd G2 c (.tup [.str "read", .str "a", .int 0]) c = some (.tup [.str "read", .str "a", .int 0]) := upd_same
    generalize upd G2 c (.tup [.str "read", .str "a", .int 0]) = G3 at sc ec nd nL ⊢
    have sd := same_new (o := .lst [.int 0, .int 0]) nd
    have ed : upd G3 d (.lst [.int 0, .int 0]) d = some (.lst [.int 0, .int 0]) := upd_same
    generalize upd G3 d (.lst [.int 0, .int 0]) = G4 at sd ed nL ⊢
    have sL := same_new (o := .lst [.ref a, .ref b, .ref c, .ref d]) nL
    have eL : upd G4 L (.lst [.ref a, .ref b, .ref c, .ref d]) L = some (.lst [.ref a, .ref b, .ref c, .ref d]) := upd_same
    generalize upd G4 L (.lst [.ref a, .ref b, .ref c, .ref d]) = G5 at sL eL ⊢
    have s15 := (((sa.trans sb).trans sc).trans sd).trans sL
    refine ⟨_, rfl, _, _, rfl, rfl, ?_⟩
    have : k = 10 ∨ k = 11 ∨ k = 12 ∨ k = 13 := by omega
    rcases this with rfl | rfl | rfl | rfl
    · exact ⟨L, _, _, _, rfl, rfl, .of eL, at0, dat _ (.tuple []) _ s15 (.tup (.of ((((sb.trans sc).trans sd).trans sL) _ _ ea)) .nil) (fit_tup (by decide) (fun d h => nomatch h))⟩
    · exact ⟨L, _, _, _, rfl, rfl, .of eL, at1, dat _ (.list []) _ s15 (.lst (.of (((sc.trans sd).trans sL) _ _ eb)) .nil) (fit_lst (by decide) (fun d h => nomatch h))⟩
    · refine ⟨L, _, _, _, rfl, rfl, .of eL, at2, dat _ (.tuple [.str "read", .str "a", .int 0]) _ s15 (.tup (.of ((sd.trans sL) _ _ ec)) (.cons (.str _) (.cons (.str _) (.cons (.int _) .nil)))) (fit_tup (by show 3 ≤ 100000; decide) (fun x h => ?_))⟩
      simp only [List.mem_cons, List.not_mem_nil, or_false] at h
      rcases h with rfl | rfl | rfl
      · exact fit_word (by decide +kernel)
      · exact fit_reg (by decide +kernel)
      · exact fit_i
    · refine ⟨L, _, _, _, rfl, rfl, .of eL, at3, dat _ (.list [.int 0, .int 0]) _ s15 (.lst (.of (sL _ _ ed)) (.cons (.int _) (.cons (.int _) .nil))) (fit_lst (by show 2 ≤ 100000; decide) (fun x h => ?_))⟩
      simp only [List.mem_cons, List.not_mem_nil, or_false] at h
      rcases h with rfl | rfl <;> exact fit_i
  rw [decide_eq_false c14]
  refine iteF ⟨_, rfl, rfl, _, rfl, ?_⟩
  by_cases c15 : k = 14
  · rw [decide_eq_true (show V.int k = V.int 14 from congrArg V.int c15)]
    exact iteT fun a na => ⟨upd_same, [(Sum.inr ("a" : Str), .int 1)], rfl, (by show 1 ≤ 15; decide), q _ none _ (b1.trans (same_but (fun b o e => by rw [upd_ne (ne_of_none e na), upd_ne (ne_of_none e na)]; exact e))) (p1.same (fun b o e => by rw [upd_ne (ne_of_none e na), upd_ne (ne_of_none e na)]; exact e)) (.dic upd_same) fitT_none⟩
  rw [decide_eq_false (show ¬ V.int k = V.int 14 from fun z => c15 (V.int.inj z))]
  refine iteF ⟨_, rfl, p, 3, rfl, p1, by omega, fun i H2 b2 p2 hi => ?_⟩
  refine ⟨_, rfl, p, 20, rfl, p2, by omega, fun m H3 b3 p3 hm => ⟨_, _, rfl, rfl, _, rfl, by omega, by omega, ?_⟩⟩
  refine for_it (n := (1 + m).toNat) walk_range (fun j σ' H' => ∃ (v : V) (d : PyData) (z : Option V), σ' = [some (.ref p), some (.int k), some v, z] ∧ Same H3 H' ∧ Dp K H' v d ∧ fit j d) ⟨_, .int i, none, rfl, Same.refl _, .int i, trivial⟩ (fun _ _ _ _ _ => trivial) ?_ ?_
  · rintro j z σ' H0 H' hj ⟨v, d, _, rfl, s3, hv, hd⟩ ⟨rfl, rfl⟩
    refine ⟨_, rfl, (by show 1 ≤ sizeLine; decide), fun t nt => ?_⟩
    have sn := same_new (o := .tup [v]) nt
    exact ⟨_, .tuple [d], _, rfl, s3.trans sn, .tup (.of upd_same) (.cons (dp_same sn hv) .nil), fit_tup (by show 1 ≤ 100000; decide) (fun x h => by rw [List.mem_singleton.mp h]; exact hd)⟩
  · rintro σ' H' ⟨v, d, z, rfl, s3, hv, hd⟩
    exact ⟨_, rfl, q v (some d) H' (((b1.trans b2).trans b3).trans (same_but s3)) (p3.same s3) (.dat hv) (fitT_of (fit_up hd (by omega)))⟩
end
end J

end M

set_option Elab.async false
set_option linter.all false
set_option maxRecDepth 100000
set_option maxHeartbeats 2000000
namespace M
open PySem PySem.Spec PyProof.Rows L2

def callD (c : Str × Int) : PyData := .tuple [.str c.1, .int c.2]
theorem tups_dp {K : PySem.W.Frag} {H : Hp} : ∀ {ys : List V} {cs : List (Str × Int)}, TupsAt H ys cs → DpAll K H ys (cs.map callD)
  | [], [], _ => .nil
  | _ :: _, _ :: _, ⟨⟨t, e, h⟩, r⟩ => e ▸ .cons (.tup (.of h) (.cons (.str _) (.cons (.int _) .nil))) (tups_dp r)
  | [], _ :: _, h => h.elim
  | _ :: _, [], h => h.elim
def callsOf (ds : List (Str × Int × List Row)) : List (Str × Int) := ds.flatMap fun d => (List.range d.2.1.toNat).map fun (j : Nat) => (d.1, (j : Int))
theorem callsOf_snoc (l : List (Str × Int × List Row)) (d : Str × Int × List Row) : callsOf (l ++ [d]) = callsOf l ++ (List.range d.2.1.toNat).map fun (j : Nat) => (d.1, (j : Int)) := by simp [callsOf]
theorem callsOf_len : ∀ l : List (Str × Int × List Row), (∀ d ∈ l, d.2.1 ≤ 9) → (callsOf l).length ≤ 9 * l.length
  | [], _ => by simp [callsOf]
  | d :: r, h => by
    have e : callsOf (d :: r) = ((List.range d.2.1.toNat).map fun (j : Nat) => (d.1, (j : Int))) ++ callsOf r := by simp [callsOf]
    have h1 := h d List.mem_cons_self
    have h2 := callsOf_len r fun d hd => h d (List.mem_cons_of_mem _ hd)
    rw [e, List.length_append, List.length_map, List.length_range, List.length_cons]
    omega
theorem str_at {s : Str} {k : Int} (h : 0 ≤ k ∧ k < s.length) : ∃ c, atI s.cps.toList k = some c ∧ c ∈ s.cps.toList := by
  have l : k.toNat < s.cps.toList.length := by
    rw [Array.length_toList]
    have : s.length = s.cps.size := rfl
    omega
  have e := atI_nat (List.getElem?_eq_getElem l)
  rw [Int.toNat_of_nonneg h.1] at e
  exact ⟨_, e, List.getElem_mem l⟩
namespace J
section
variable {P : Program} {w : World} {K : PySem.W.Frag} {mg : Str → Option Value} {base : Heap}
def spCallsJ (K : PySem.W.Frag) : Sp := fun vs H Q _ => ∃ (a : Addr) (xs : List V) (ds : List (Str × Int × List Row)), vs = [.ref a] ∧ SqL K H a xs ∧ DpAll K H xs (ds.map deedD) ∧ ds.length ≤ 8 ∧ (∀ d ∈ ds, 1 ≤ d.2.1 ∧ d.2.1 ≤ 9) ∧
  ∀ (l : Addr) (ys : List V) (H' : Hp), Same H H' → H l = none → H' l = some (.lst ys) → TupsAt H' ys (callsOf ds) → Q (.ref l) H'
theorem ca_l_calls (T : Txt w K mg) : Ca P w K mg base 1 "_law_calls" (spCallsJ K) := by
  refine ca_of (N := ["_law_deeds", "_law_calls_here", "_law_deed", "_law_argument"]) (ps := ["_law_deeds"]) T.f_l_calls T.g_law_calls ⟨rfl, rfl, rfl, by decide +kernel, rfl, by decide +kernel, by decide +kernel⟩ (fun _ _ _ _ _ _ us hl => match us, hl with | [_], _ => rfl)
    (fun vs H Q E h => by obtain ⟨a, xs, ds, rfl, ha, hxs, hl8, hch, q⟩ := h; rfl) (fun cdv A outer s H vs Q E hr h => ?_)
  have nd : (["_law_deeds", "_law_calls_here", "_law_deed", "_law_argument"] : List Str).Nodup := by decide +kernel
  obtain ⟨a, xs, ds, rfl, ha, hxs, hl8, hch, q⟩ := h
  refine ⟨_, (pss_cons (ps_set (i := 1) nd rfl (.inl rfl) (pe_lst pa_nil))
      (pss_cons (ps_for PassesOwn.never rfl (pi_list (pv 0)) (pg_name (i := 2) nd rfl (.inl rfl)) (pss_one (ps_for PassesOwn.never rfl (pi_range1 rfl T.b_range (pa_cons (pe_ix ix_tup (pv 2) pe_int (fun _ _ => rfl)) pa_nil)) (pg_name (i := 3) nd rfl (.inl rfl)) (pss_one (ps_expr (pe_bm PySem.F.plainAttrs_list PySem.F.slot_list_append PySem.F.type_list_append mt_append (pv 1) (pa_cons (pe_tup (pa_cons (pe_ix ix_tup (pv 2) pe_int (fun _ _ => rfl)) (pa_cons (pv 3) pa_nil))) pa_nil)))))))
      (pss_one (ps_ret (pv 1))))), ?_⟩
  have lxs : xs.length = ds.length := by rw [dps_len hxs, List.length_map]
  refine ⟨(by show 0 ≤ sizeLine; exact Nat.zero_le _), fun l nl => ?_⟩
  have s0 : Same H (upd H l (.lst [])) := same_new nl
  refine ⟨_, rfl, a, rfl, ⟨_, s0.seq ha⟩, for_list (xs := xs) (fun i σ' H' => ∃ (x y : Option V) (ys : List V), σ' = [some (.ref a), some (.ref l), x, y] ∧ Same H H' ∧ H' l = some (.lst ys) ∧ TupsAt H' ys (callsOf (ds.take i))) ⟨none, none, [], rfl, s0, upd_same, trivial⟩ (fun i σ' H' _ ⟨_, _, _, _, s, _⟩ => s.seq ha) ?_ ?_⟩
  · rintro i x σ' H' hx ⟨_, _, ys, rfl, s1, hl, hys⟩
    obtain ⟨dd, hdd, hxd⟩ := dps_get hxs hx
    obtain ⟨d, hd, rfl⟩ := get_mapA hdd
    have hmem := List.mem_of_getElem? hd
    obtain ⟨t, x1, x2, x3, rfl, ht, e1, e2, e3⟩ := dp3 hxd
    cases dp_str e1
    cases dp_int e2
    have c9 := hch d hmem
    have b8 := callsOf_len (ds.take i) fun d hd => (hch d (List.mem_of_mem_take hd)).2
    rw [List.length_take] at b8
    refine ⟨_, rfl, _, _, _, _, rfl, rfl, same_t s1 ht, at1, d.2.1, rfl, by omega, by omega, for_it (n := d.2.1.toNat) walk_range (fun j σ' H2 => ∃ (y : Option V) (ys : List V), σ' = [some (.ref a), some (.ref l), some (.ref t), y] ∧ Same H H2 ∧ H2 l = some (.lst ys) ∧ TupsAt H2 ys (callsOf (ds.take i) ++ (List.range j).map fun (j : Nat) => (d.1, (j : Int)))) ⟨_, ys, rfl, s1, hl, by simpa using hys⟩ (fun _ _ _ _ _ => trivial) ?_ ?_⟩
    · rintro j z σ' H0 H2 hj ⟨_, ys2, rfl, s2, hl2, hys2⟩ ⟨rfl, rfl⟩
      have ly := tups_len hys2
      rw [List.length_append, List.length_map, List.length_range] at ly
      refine ⟨_, rfl, .inl ⟨rfl, _, .of hl2⟩, _, rfl, _, _, _, _, rfl, rfl, same_t s2 ht, at0, _, rfl, (by show 2 ≤ sizeLine; decide), fun u nu => ?_⟩
      have s3 := same_new (o := .tup [.str d.1, .int (0 + (j : Int))]) nu
      have hl3 := s3 _ _ hl2
      have hu3 : upd H2 u (.tup [.str d.1, .int (0 + (j : Int))]) u = some (.tup [.str d.1, .int (0 + (j : Int))]) := upd_same
      have hy3 := tups_same s3 hys2
      have s23 := s2.trans s3
      generalize upd H2 u (.tup [.str d.1, .int (0 + (j : Int))]) = H3 at s3 hl3 hu3 hy3 s23 ⊢
      have bb : But l H3 (upd H3 l (.lst (ys2 ++ [.ref u]))) := But.upd
      have hu3 : H3 u = some (.tup [.str d.1, .int (j : Int)]) := by rw [hu3, Int.zero_add]
      refine ⟨l, ys2, _, rfl, rfl, hl3, by rw [sizeLine_eq]; omega, _, ys2 ++ [.ref u], rfl, fun b o e => bb _ _ (ne_of_none e nl) (s23 _ _ e), upd_same, ?_⟩
      rw [range_more, List.map_append, ← List.append_assoc]
      exact tups_but (.lst hl3) bb (tups_snoc (c := (d.1, (j : Int))) hu3 hy3)
    · rintro σ' H2 ⟨_, ys2, rfl, s2, hl2, hys2⟩
      refine ⟨_, _, ys2, rfl, s2, hl2, ?_⟩
      rw [take_more hd, callsOf_snoc]
      exact hys2
  · rintro σ' H' ⟨_, _, ys, rfl, s1, hl, hys⟩
    rw [lxs, List.take_length] at hys
    exact ⟨_, rfl, q l ys H' s1 nl hl hys⟩
def spGInt (K : PySem.W.Frag) : Sp := fun vs H Q _ => ∃ (v : V) (d : PyData) (lo hi : Int), vs = [v, .int lo, .int hi] ∧ Dp K H v d ∧ Q (.bl (inR lo hi d)) H
theorem ca_l_good_int (T : Txt w K mg) : Ca P w K mg base 1 "_law_good_int" (spGInt K) := by
  refine ca_of (N := ["_law_thing", "_law_least", "_law_greatest"]) (ps := ["_law_thing", "_law_least", "_law_greatest"]) T.f_l_good_int T.g_law_good_int ⟨rfl, rfl, rfl, by decide +kernel, rfl, by decide +kernel, by decide +kernel⟩ (fun _ _ _ _ _ _ us hl => match us, hl with | [_, _, _], _ => rfl)
    (fun vs H Q E h => by obtain ⟨v, d, lo, hi, rfl, hd, q⟩ := h; rfl) (fun cdv A outer s H vs Q E hr h => ?_)
  have nd : (["_law_thing", "_law_least", "_law_greatest"] : List Str).Nodup := by decide +kernel
  obtain ⟨v, d, lo, hi, rfl, hd, q⟩ := h
  refine ⟨_, (pss_one (ps_ret (pe_and (pe_is .int T.b_isinstance (pv 0) T.b_int boot_int) (pe_and (pe_not (pe_is .bool T.b_isinstance (pv 0) T.b_bool boot_bool)) (pe_one (pe_chain op_le op_le (pv 1) (pv 0) (pv 2))))))), ?_⟩
  have kd := dp_kd hd
  refine ⟨_, rfl, _, _, rfl, kd, _, rfl, ?_⟩
  cases hd with
  | int i =>
    have q : Q (.bl (decide (lo ≤ i) && decide (i ≤ hi))) H := q
    refine iteT ⟨_, rfl, _, _, rfl, kd, _, rfl, _, rfl, iteT ⟨_, rfl, _, rfl, _, _, rfl, rfl, _, rfl, ?_⟩⟩
    by_cases c : lo ≤ i
    · rw [decide_eq_true c] at q ⊢
      exact iteT ⟨_, rfl, _, _, rfl, rfl, q⟩
    · rw [decide_eq_false c] at q ⊢
      exact iteF q
  | bl b => exact iteT ⟨_, rfl, _, _, rfl, kd, _, rfl, _, rfl, iteF q⟩
  | _ => exact iteF q
def spGState (K : PySem.W.Frag) : Sp := fun vs H Q _ => ∃ (y : V) (o : Option PyData) (l : Addr) (xs : List V) (cs : List (Int × Int)), vs = [y, .ref l] ∧ Tg K H y o ∧ SqL K H l xs ∧ DpAll K H xs (cs.map cellD) ∧ cs.length ≤ 6 ∧ Q (.bl (stB (cs.map (·.1)) o)) H
theorem ca_l_good_state (T : Txt w K mg) : Ca P w K mg base 3 "_law_good_state" (spGState K) := by
  refine ca_of (N := ["_law_state_here", "_law_cells", "_law_k"]) (ps := ["_law_state_here", "_law_cells"]) T.f_l_good_state T.g_law_good_state ⟨rfl, rfl, rfl, by decide +kernel, rfl, by decide +kernel, by decide +kernel⟩ (fun _ _ _ _ _ _ us hl => match us, hl with | [_, _], _ => rfl)
    (fun vs H Q E h => by obtain ⟨y, o, l, xs, cs, rfl, ho, hl, hxs, h6, q⟩ := h; rfl) (fun cdv A outer s H vs Q E hr h => ?_)
  have nd : (["_law_state_here", "_law_cells", "_law_k"] : List Str).Nodup := by decide +kernel
  obtain ⟨y, o, l, xs, cs, rfl, ho, hl, hxs, h6, q⟩ := h
  refine ⟨_, (pss_cons (ps_if (PW.pt (pw_or (pt_not (pt_val (pe_is .tuple T.b_isinstance (pv 0) T.b_tuple boot_tuple))) (pw_or1 (pt_cmpR op_ne (pe_callB call_len_seq (by rfl) T.b_len PySem.boot_len (pa_cons (pv 0) pa_nil)) (pe_callB call_len_seq (by rfl) T.b_len PySem.boot_len (pa_cons (pv 1) pa_nil)) (nomark _))))) (pss_one (ps_ret pe_bl)) pss_nil)
      (pss_cons (ps_for PassesOwn.never rfl (pi_range1 rfl T.b_range (pa_cons (pe_callB call_len_seq (by rfl) T.b_len PySem.boot_len (pa_cons (pv 1) pa_nil)) pa_nil)) (pg_name (i := 2) nd rfl (.inl rfl)) (pss_one (ps_if (pt_not (pt_val (pe_ca (ca_l_good_int T) hr (pa_cons (pe_ix ix_tup (pv 0) (pv 2) (fun _ _ => rfl)) (pa_cons pe_int (pa_cons (pe_op op_sub (pe_ix ix_tup (pe_ix ix_list (pv 1) (pv 2) (fun _ _ => rfl)) pe_int (fun _ _ => rfl)) pe_int) pa_nil)))))) (pss_one (ps_ret pe_bl)) pss_nil)))
      (pss_one (ps_ret pe_bl)))), ?_⟩
  obtain ⟨k, kd, k1, k2⟩ := tg_kd (own_ok T.e_own_Vault) T.c_Vault ho
  have lx : xs.length = cs.length := by rw [dps_len hxs, List.length_map]
  refine ⟨_, rfl, _, _, rfl, kd, _, rfl, ?_⟩
  have bad : stB (cs.map (·.1)) o = false → Q (.bl false) H := fun e => by
    rw [e] at q
    exact q
  cases o with
  | none =>
    have e : k.is .tuple = false := by
      have := (k2 rfl).1
      cases k <;> first | rfl | exact absurd rfl this
    rw [e]
    exact iteT (bad rfl)
  | some d =>
    cases ho with
    | dat h =>
      cases k1 _ rfl
      cases h with
      | @tup b ys ds hb hds =>
        have e0 : stB (cs.map (·.1)) (some (.tuple ds)) = okS (cs.map (·.1)) ds := rfl
        have ly := dps_len hds
        refine iteF ⟨_, rfl, _, _, rfl, .inr hb, _, rfl, _, _, rfl, .inl hl, rfl, _, rfl, ?_⟩
        by_cases c : ds.length = cs.length
        case neg =>
          rw [decide_eq_false (show ¬ V.int (ys.length : Nat) = V.int (xs.length : Nat) from fun z => c (by have := V.int.inj z; omega))]
          exact iteT (bad (by rw [e0]; exact okS_len (by rw [List.length_map]; exact c)))
        rw [decide_eq_true (show V.int (ys.length : Nat) = V.int (xs.length : Nat) by rw [lx, ly, c])]
        refine iteF ⟨_, rfl, _, _, rfl, .inl hl, _, rfl, by omega, by omega, for_it (n := ((xs.length : Nat) : Int).toNat) walk_range (fun i σ' H' => ∃ z, σ' = [some (.ref b), some (.ref l), z] ∧ H' = H ∧ okS (cs.map (·.1)) ds = okS ((cs.map (·.1)).drop i) (ds.drop i)) ⟨none, rfl, rfl, rfl⟩ (fun _ _ _ _ _ => trivial) ?_ ?_⟩
        · rintro i z σ' H0 H' hi ⟨_, rfl, rfl, ei⟩ ⟨rfl, rfl⟩
          have hy := List.getElem?_eq_getElem (show i < ys.length by omega)
          have hx := List.getElem?_eq_getElem (show i < xs.length by omega)
          generalize ys[i]'(by omega) = yv at hy
          generalize xs[i]'(by omega) = xv at hx
          obtain ⟨dy, edy, hdy⟩ := dps_get hds hy
          obtain ⟨dx, edx, hdx⟩ := dps_get hxs hx
          obtain ⟨c0, ec0, rfl⟩ := get_mapA edx
          obtain ⟨t, x1, x2, rfl, ht, e1, e2⟩ := dp2 hdx
          cases dp_int e1
          have aty : atI ys ((0 : Int) + (i : Nat)) = some yv := by rw [Int.zero_add]; exact atI_nat hy
          have atx : atI xs ((0 : Int) + (i : Nat)) = some (.ref t) := by rw [Int.zero_add]; exact atI_nat hx
          rw [okS_step (s := c0.1) (by rw [List.getElem?_map, ec0]; rfl) edy] at ei
          refine ⟨_, rfl, _, rfl, _, _, _, _, rfl, rfl, hb, aty, _, rfl, _, rfl, _, _, _, _, rfl, rfl, hl, atx, _, _, _, _, rfl, rfl, ht, at0, _, _, rfl, rfl, yv, dy, 0, c0.1 - 1, rfl, hdy, _, rfl, ?_⟩
          cases e3 : inR 0 (c0.1 - 1) dy with
          | false =>
            rw [e3] at ei
            exact iteT (bad (e0.trans ei))
          | true =>
            rw [e3, Bool.true_and] at ei
            exact iteF ⟨_, rfl, rfl, ei⟩
        · rintro σ' H' ⟨_, rfl, rfl, ei⟩
          rw [show ((xs.length : Nat) : Int).toNat = cs.length by omega, List.drop_of_length_le (by rw [List.length_map]; exact Nat.le_refl _), List.drop_of_length_le (by omega)] at ei
          rw [e0, ei] at q
          exact q
      | _ => exact iteT (bad rfl)
end
end J

end M

set_option Elab.async false
set_option linter.all false
set_option maxRecDepth 100000
set_option maxHeartbeats 2000000
namespace M
open PySem PySem.Spec PyProof.Rows L2

theorem ix_tupK {X : Cx} (K : PySem.W.Frag) (hK : X.K = K) : IxR X (rIxT K) := hK ▸ ix_tup
theorem fit_ints {n : Nat} {es : List PyData} {hs : List Int} (m : ∀ d ∈ es, d ∈ hs.map PyData.int) : ∀ d ∈ es, fit n d := fun d hd => by
  obtain ⟨i, _, rfl⟩ := List.mem_map.mp (m d hd)
  exact fit_i
theorem ints_noL (hs : List Int) : ∀ d ∈ hs.map PyData.int, NoL d := fun d hd => by
  obtain ⟨i, _, rfl⟩ := List.mem_map.mp hd
  exact .int i
theorem list_at {xs : List V} {i : Int} (h : 0 ≤ i ∧ i < (xs.length : Nat)) : ∃ x, atI xs i = some x ∧ xs[i.toNat]? = some x := by
  have l : i.toNat < xs.length := by omega
  have e := atI_nat (List.getElem?_eq_getElem l)
  rw [Int.toNat_of_nonneg h.1] at e
  exact ⟨_, e, List.getElem?_eq_getElem l⟩
namespace J
section
variable {P : Program} {w : World} {K : PySem.W.Frag} {mg : Str → Option Value} {base : Heap}
def spNameJ (K : PySem.W.Frag) : Sp := fun vs H Q _ => ∃ (p l : Addr) (xs : List V) (ds : List (Str × Int × List Row)), vs = [.ref p, .ref l] ∧ PoolAt H p ∧ H l = some (.lst xs) ∧ l ≠ p ∧ DpAll K H xs (ds.map deedD) ∧ (1 ≤ ds.length ∧ ds.length ≤ 8) ∧ (∀ d ∈ ds, NameOk d.1) ∧
  ∀ (v : V) (o : Option PyData) (H' : Hp), But p H H' → PoolAt H' p → Tg K H' v o → fitT o → Q v H'
theorem ca_l_name (T : Txt w K mg) : Ca P w K mg base 3 "_law_name" (spNameJ K) := by
  refine ca_of (N := ["_law_pool_here", "_law_deeds", "_law_kind", "_law_name_here", "_law_at"]) (ps := ["_law_pool_here", "_law_deeds"]) T.f_l_name T.g_law_name ⟨rfl, rfl, rfl, by decide +kernel, rfl, by decide +kernel, by decide +kernel⟩ (fun _ _ _ _ _ _ us hl => match us, hl with | [_, _], _ => rfl)
    (fun vs H Q E h => by obtain ⟨p, l, xs, ds, rfl, hp, hl, nlp, hxs, hds, hnm, q⟩ := h; rfl) (fun cdv A outer s H vs Q E hr h => ?_)
  have nd : (["_law_pool_here", "_law_deeds", "_law_kind", "_law_name_here", "_law_at"] : List Str).Nodup := by decide +kernel
  obtain ⟨p, l, xs, ds, rfl, hp, hl, nlp, hxs, hds, hnm, q⟩ := h
  refine ⟨_, (pss_cons (ps_set (i := 2) nd rfl (.inl rfl) (pe_ca (ca_l_draw T) hr (pa_cons (pv 0) (pa_cons pe_int pa_nil))))
      (pss_cons (ps_set (i := 3) nd rfl (.inl rfl) (pe_ix ix_tup (pe_ix ix_list (pv 1) (pe_ca (ca_l_draw T) hr (pa_cons (pv 0) (pa_cons (pe_callB call_len_seq (by rfl) T.b_len PySem.boot_len (pa_cons (pv 1) pa_nil)) pa_nil))) (fun _ _ => rfl)) pe_int (fun _ _ => rfl)))
      (pss_cons (ps_set (i := 4) nd rfl (.inl rfl) (pe_ca (ca_l_draw T) hr (pa_cons (pv 0) (pa_cons (pe_callB call_len_str (by rfl) T.b_len PySem.boot_len (pa_cons (pv 3) pa_nil)) pa_nil))))
      (pss_cons (ps_if (pt_cmpR op_eq (pv 2) pe_int (nomark _)) (pss_one (ps_ret (pe_ca (ca_l_odd T) hr (pa_cons (pv 0) pa_nil)))) pss_nil)
      (pss_cons (ps_if (pt_cmpR op_eq (pv 2) pe_int (nomark _)) (pss_one (ps_ret (pe_op op_add_str (pe_slice sl_str (pv 3) po_none (po_some (pv 4))) (pe_slice sl_str (pv 3) (po_some (pe_op op_add (pv 4) pe_int)) po_none)))) pss_nil)
      (pss_cons (ps_if (pt_cmpR op_eq (pv 2) pe_int (nomark _)) (pss_one (ps_ret (pe_op op_add_str (pv 3) (pe_ix ix_str (pv 3) (pv 4) (fun _ _ => rfl))))) pss_nil)
      (pss_cons (ps_if (pt_cmpR op_eq (pv 2) pe_int (nomark _)) (pss_one (ps_ret (pe_ix ix_list (pe_lst (pa_cons (pe_op op_add_str (pe_op op_add_str (pe_slice sl_str (pv 3) po_none (po_some (pv 4))) (pe_upper (pe_ix ix_str (pv 3) (pv 4) (fun _ _ => rfl)))) (pe_slice sl_str (pv 3) (po_some (pe_op op_add (pv 4) pe_int)) po_none)) (pa_cons (pe_lst (pa_cons (pv 3) pa_nil)) (pa_cons (pe_tup (pa_cons (pv 3) (pa_cons pe_int pa_nil))) pa_nil)))) (pe_ca (ca_l_draw T) hr (pa_cons (pv 0) (pa_cons pe_int pa_nil))) (fun _ _ => rfl)))) pss_nil)
      (pss_one (ps_ret (pv 3)))))))))), ?_⟩
  have lx : xs.length = ds.length := by rw [dps_len hxs, List.length_map]
  refine ⟨_, rfl, p, 6, rfl, hp, by omega, fun k H1 b1 p1 hk => ?_⟩
  have hl1 := b1 _ _ nlp hl
  refine ⟨_, rfl, _, rfl, _, rfl, _, _, rfl, .inl (.of hl1), p, (xs.length : Nat), rfl, p1, by omega, fun i H2 b2 p2 hi => ?_⟩
  have b12 := b1.trans b2
  have hl2 := b2 _ _ nlp hl1
  obtain ⟨x, hat, hx⟩ := list_at hi
  have hxs2 := dps_but hp.ch b12 hxs (deeds_noL ds)
  obtain ⟨dd, ed, hdd⟩ := dps_get hxs2 hx
  obtain ⟨d, ec, rfl⟩ := get_mapA ed
  obtain ⟨t, x1, x2, x3, rfl, ht, e1, e2, e3⟩ := dp3 hdd
  cases dp_str e1
  have nok := hnm d (List.mem_of_getElem? ec)
  have n1 := nok.1
  have n8 := nok.2.1
  have hz : d.1.length ≤ sizeLine := by rw [sizeLine_eq]; omega
  refine ⟨_, _, _, _, rfl, rfl, .of hl2, hat, _, _, _, _, rfl, rfl, ht, at0, ?_⟩
  refine ⟨_, rfl, _, rfl, _, rfl, hz, p, (d.1.length : Nat), rfl, p2, by omega, fun at_ H3 b3 p3 hat_ => ?_⟩
  have b13 := b12.trans b3
  obtain ⟨c, hc, hcm⟩ := str_at hat_
  have tx : ∀ s : Str, Q (.str s) H3 := fun s => q _ _ H3 b13 p3 (.dat (.str s)) (fitT_str s)
  have c1 := cutS_length d.1 none (some at_)
  have c2 := cutS_length d.1 (some (at_ + 1)) none
  have l1 : (⟨#[c]⟩ : Str).length = 1 := rfl
  refine ⟨_, rfl, rfl, _, rfl, ?_⟩
  by_cases k0 : k = 0
  · rw [decide_eq_true (show V.int k = V.int 0 from congrArg V.int k0)]
    exact iteT ⟨_, rfl, p, rfl, p3, fun v o H4 b4 p4 tg ft => q v o H4 (b13.trans b4) p4 tg ft⟩
  rw [decide_eq_false (show ¬ V.int k = V.int 0 from fun z => k0 (V.int.inj z))]
  refine iteF ⟨_, rfl, rfl, _, rfl, ?_⟩
  by_cases k1 : k = 1
  · rw [decide_eq_true (show V.int k = V.int 1 from congrArg V.int k1)]
    exact iteT ⟨_, rfl, _, rfl, _, rfl, _, rfl, hz, _, rfl, _, rfl, _, _, rfl, rfl, _, rfl, _, rfl, hz, _, _, rfl, rfl, by rw [sizeLine_eq]; omega, tx _⟩
  rw [decide_eq_false (show ¬ V.int k = V.int 1 from fun z => k1 (V.int.inj z))]
  refine iteF ⟨_, rfl, rfl, _, rfl, ?_⟩
  by_cases k2 : k = 2
  · rw [decide_eq_true (show V.int k = V.int 2 from congrArg V.int k2)]
    exact iteT ⟨_, rfl, _, rfl, _, rfl, _, at_, c, rfl, rfl, hz, hc, _, _, rfl, rfl, by rw [sizeLine_eq, l1]; omega, tx _⟩
  rw [decide_eq_false (show ¬ V.int k = V.int 2 from fun z => k2 (V.int.inj z))]
  refine iteF ⟨_, rfl, rfl, _, rfl, ?_⟩
  by_cases k3 : k = 3
  · rw [decide_eq_true (show V.int k = V.int 3 from congrArg V.int k3)]
    have lu : (Txt.upper (⟨#[c]⟩ : Str)).length ≤ 3 := by
      have := PyProof.Rows.len_upper (⟨#[c]⟩ : Str)
      rw [l1] at this
      omega
    refine iteT ⟨_, rfl, _, rfl, _, rfl, _, rfl, hz, _, rfl, _, rfl, _, at_, c, rfl, rfl, hz, hc, ⟨_, rfl⟩, _, rfl, rfl, by rw [l1]; decide, _, _, rfl, rfl, by rw [sizeLine_eq]; omega, _, rfl, _, rfl, _, _, rfl, rfl, _, rfl, _, rfl, hz, _, _, rfl, rfl, by rw [sizeLine_eq, len_appJ]; omega, ?_⟩
    refine ⟨_, rfl, (by show 1 ≤ sizeLine; decide), fun L1 nL1 => ⟨_, rfl, (by show 2 ≤ sizeLine; decide), fun T1 nT1 => ⟨(by show 3 ≤ sizeLine; decide), fun L nL => ?_⟩⟩⟩
    have s1 := same_new (o := .lst [.str d.1]) nL1
    have eL1 : upd H3 L1 (.lst [.str d.1]) L1 = some (.lst [.str d.1]) := upd_same
    generalize upd H3 L1 (.lst [.str d.1]) = G1 at s1 eL1 nT1 nL ⊢
    have s2 := same_new (o := .tup [.str d.1, .int 0]) nT1
    have eT1 : upd G1 T1 (.tup [.str d.1, .int 0]) T1 = some (.tup [.str d.1, .int 0]) := upd_same
    generalize upd G1 T1 (.tup [.str d.1, .int 0]) = G2 at s2 eT1 nL ⊢
    generalize (cutS d.1 none (some at_) ++ Txt.upper (⟨#[c]⟩ : Str) ++ cutS d.1 (some (at_ + 1)) none) = u
    have s3 := same_new (o := .lst [.str u, .ref L1, .ref T1]) nL
    have eL : upd G2 L (.lst [.str u, .ref L1, .ref T1]) L = some (.lst [.str u, .ref L1, .ref T1]) := upd_same
    have pG := p3.same (s1.trans (s2.trans s3))
    have nLp := pool_nl (p3.same (s1.trans s2)) nL
    have nL1p : L1 ≠ p := pool_nl p3 nL1
    have nT1p : T1 ≠ p := pool_nl (p3.same s1) nT1
    generalize upd G2 L (.lst [.str u, .ref L1, .ref T1]) = G3 at s3 eL pG ⊢
    refine ⟨_, rfl, p, 3, rfl, pG, by omega, fun j H4 b4 p4 hj => ?_⟩
    have b14 := (b13.trans (same_but (s1.trans (s2.trans s3)))).trans b4
    have eL4 := b4 _ _ nLp eL
    have : j = 0 ∨ j = 1 ∨ j = 2 := by omega
    rcases this with rfl | rfl | rfl
    · exact ⟨L, _, _, _, rfl, rfl, .of eL4, at0, q _ _ H4 b14 p4 (.dat (.str u)) (fitT_str u)⟩
    · exact ⟨L, _, _, _, rfl, rfl, .of eL4, at1, q _ (some (.list [.str d.1])) H4 b14 p4 (.dat (.lst (.of (b4 _ _ nL1p ((s2.trans s3) _ _ eL1))) (.cons (.str _) .nil))) (fitT_of (fit_lst (by show 1 ≤ 100000; decide) fun x h => by rw [List.mem_singleton.mp h]; exact name_fit nok))⟩
    · refine ⟨L, _, _, _, rfl, rfl, .of eL4, at2, q _ (some (.tuple [.str d.1, .int 0])) H4 b14 p4 (.dat (.tup (.of (b4 _ _ nT1p (s3 _ _ eT1))) (.cons (.str _) (.cons (.int _) .nil)))) (fitT_of (fit_tup (by show 2 ≤ 100000; decide) fun x h => ?_))⟩
      simp only [List.mem_cons, List.not_mem_nil, or_false] at h
      rcases h with rfl | rfl
      · exact name_fit nok
      · exact fit_i
  rw [decide_eq_false (show ¬ V.int k = V.int 3 from fun z => k3 (V.int.inj z))]
  exact iteF ⟨_, rfl, tx _⟩
end
end J

end M

set_option Elab.async false
set_option linter.all false
set_option maxRecDepth 100000
set_option maxHeartbeats 2000000
namespace M
open PySem PySem.Spec PyProof.Rows L2

/-- a number of one digit -/
def dgJ (i : Int) : Str := ⟨#[48 + i.toNat]⟩
theorem digJ_str {i : Int} (h : 0 ≤ i ∧ i ≤ 9) : Str.ofString (toString i) = dgJ i := by
  obtain ⟨k, rfl⟩ : ∃ k : _root_.Fin 10, i = ((k.val : Nat) : Int) := ⟨⟨i.toNat, by omega⟩, by show i = ((i.toNat : Nat) : Int); omega⟩
  revert k
  decide +kernel
theorem digJ_log {i : Int} (h : 0 ≤ i ∧ i ≤ 9) : i.natAbs.log2 < 1920 := by
  obtain ⟨k, rfl⟩ : ∃ k : _root_.Fin 10, i = ((k.val : Nat) : Int) := ⟨⟨i.toNat, by omega⟩, by show i = ((i.toNat : Nat) : Int); omega⟩
  revert k
  decide +kernel
theorem dgs_fit {n : Nat} {i : Int} (h : 0 ≤ i ∧ i ≤ 9) : fit n (.str (dgJ i)) := atom_fit (d := .str (dgJ i)) ⟨by show 1 ≤ 1000000; decide, by
  unfold PyData.strOk
  rw [Array.all_eq_true']
  intro x hx
  have hx : x ∈ (#[48 + i.toNat] : Array Nat) := hx
  rw [Array.mem_singleton.mp hx]
  exact decide_eq_true (by omega)⟩
namespace J
section
variable {P : Program} {w : World} {K : PySem.W.Frag} {mg : Str → Option Value} {base : Heap}
def spStateJ (K : PySem.W.Frag) : Sp := fun vs H Q _ => ∃ (p l : Addr) (xs : List V) (cs : List (Int × Int)), vs = [.ref p, .ref l] ∧ PoolAt H p ∧ H l = some (.lst xs) ∧ l ≠ p ∧ DpAll K H xs (cs.map cellD) ∧ (1 ≤ cs.length ∧ cs.length ≤ 6) ∧ (∀ c ∈ cs, CellOk c) ∧
  ∀ (v : V) (o : Option PyData) (H' : Hp), But p H H' → PoolAt H' p → Tg K H' v o → fitT o → Q v H'
theorem ca_l_state (T : Txt w K mg) : Ca P w K mg base 3 "_law_state" (spStateJ K) := by
  refine ca_of (N := ["_law_pool_here", "_law_cells", "_law_kind", "_law_at", "_law_cell", "_law_state_here", "_law_size", "_law_other"]) (ps := ["_law_pool_here", "_law_cells"]) T.f_l_state T.g_law_state ⟨rfl, rfl, rfl, by decide +kernel, rfl, by decide +kernel, by decide +kernel⟩ (fun _ _ _ _ _ _ us hl => match us, hl with | [_, _], _ => rfl)
    (fun vs H Q E h => by obtain ⟨p, l, xs, cs, rfl, hp, hl, nlp, hxs, hcs, hok, q⟩ := h; rfl) (fun cdv A outer s H vs Q E hr h => ?_)
  have nd : (["_law_pool_here", "_law_cells", "_law_kind", "_law_at", "_law_cell", "_law_state_here", "_law_size", "_law_other"] : List Str).Nodup := by decide +kernel
  obtain ⟨p, l, xs, cs, rfl, hp, hl, nlp, hxs, hcs, hok, q⟩ := h
  refine ⟨_, (pss_cons (ps_set (i := 2) nd rfl (.inl rfl) (pe_ca (ca_l_draw T) hr (pa_cons (pv 0) (pa_cons pe_int pa_nil))))
      (pss_cons (ps_set (i := 3) nd rfl (.inl rfl) (pe_ca (ca_l_draw T) hr (pa_cons (pv 0) (pa_cons (pe_callB call_len_seq (by rfl) T.b_len PySem.boot_len (pa_cons (pv 1) pa_nil)) pa_nil))))
      (pss_cons (ps_set (i := 5) nd rfl (.inl rfl) (pe_tupleOf (by rfl) T.b_tuple (pe_lc (own := [("_law_cell", 4)]) (tt := tYes) rfl nd (pi_list (pv 1)) (blkOk_by (N := ["_law_pool_here", "_law_cells", "_law_kind", "_law_at", "_law_cell", "_law_state_here", "_law_size", "_law_other"]) (sc := defScope s_l_state) (by decide +kernel)) (fun _ _ _ _ _ => pg_name (i := 4) nd rfl (.inl rfl)) (fun _ _ _ _ _ => pts_nil) (fun _ _ _ _ _ => pe_ca (ca_l_draw T) hr (pa_cons (pv 0) (pa_cons (pe_ix (ix_tupK K rfl) (pv 4) pe_int (fun _ _ => rfl)) pa_nil))))))
      (pss_cons (ps_if (pt_cmpR op_lt (pv 2) pe_int (nomark _)) (pss_one (ps_ret (pv 5))) pss_nil)
      (pss_cons (ps_if (pt_cmpR op_eq (pv 2) pe_int (nomark _)) (pss_cons (ps_set (i := 2) nd rfl (.inl rfl) (pe_ca (ca_l_draw T) hr (pa_cons (pv 0) (pa_cons pe_int pa_nil))))
      (pss_one (ps_ret (pe_ix ix_list (pe_lst (pa_cons (pe_op op_catA (pv 5) (pe_tup (pa_cons pe_int pa_nil))) (pa_cons (pe_op op_catA (pe_slice sl_tupA (pv 5) po_none (po_some (pv 3))) (pe_slice sl_tupA (pv 5) (po_some (pe_op op_add (pv 3) pe_int)) po_none)) (pa_cons (pe_callTy call_list_of (by rfl) T.b_list boot_list (pa_cons (pv 5) pa_nil)) (pa_cons (pe_ca (ca_l_odd T) hr (pa_cons (pv 0) pa_nil)) (pa_cons (pe_ix ix_tup (pv 5) pe_int (fun _ _ => rfl)) pa_nil)))))) (pv 2) (fun _ _ => rfl))))) pss_nil)
      (pss_cons (ps_set (i := 6) nd rfl (.inl rfl) (pe_ix ix_tup (pe_ix ix_list (pv 1) (pv 3) (fun _ _ => rfl)) pe_int (fun _ _ => rfl)))
      (pss_cons (ps_set (i := 7) nd rfl (.inl rfl) (pe_ix ix_list (pe_lst (pa_cons (pv 6) (pa_cons (pe_un un_neg pe_int) (pa_cons (pe_op op_sub (pv 6) pe_int) (pa_cons (pe_cmpR op_eq (pe_ix ix_tup (pv 5) (pv 3) (fun _ _ => rfl)) pe_int (nomark _)) (pa_cons (pe_callTy call_str_int (by rfl) T.b_str boot_str (pa_cons (pe_ix ix_tup (pv 5) (pv 3) (fun _ _ => rfl)) pa_nil)) (pa_cons pe_non (pa_cons (pe_tup (pa_cons (pe_ix ix_tup (pv 5) (pv 3) (fun _ _ => rfl)) pa_nil)) (pa_cons (pe_op op_pow pe_int pe_int) pa_nil))))))))) (pe_ca (ca_l_draw T) hr (pa_cons (pv 0) (pa_cons pe_int pa_nil))) (fun _ _ => rfl)))
      (pss_one (ps_ret (pe_op op_catA (pe_op op_catA (pe_slice sl_tupA (pv 5) po_none (po_some (pv 3))) (pe_tup (pa_cons (pv 7) pa_nil))) (pe_slice sl_tupA (pv 5) (po_some (pe_op op_add (pv 3) pe_int)) po_none))))))))))), ?_⟩
  have lx : xs.length = cs.length := by rw [dps_len hxs, List.length_map]
  refine ⟨_, rfl, p, 4, rfl, hp, by omega, fun k H1 b1 p1 hk => ?_⟩
  have hl1 := b1 _ _ nlp hl
  refine ⟨_, rfl, _, rfl, _, _, rfl, .inl (.of hl1), p, (xs.length : Nat), rfl, p1, by omega, fun at_ H2 b2 p2 hat => ?_⟩
  have b12 := b1.trans b2
  have hl2 := b2 _ _ nlp hl1
  have hxs2 := dps_but hp.ch b12 hxs (cells_noL cs)
  -- the state
  refine ⟨_, rfl, l, rfl, ⟨_, .of hl2⟩, fun D nD => ?_⟩
  have nDp := pool_nl p2 nD
  refine it_any (n := xs.length) walk_list (fun i J => ∃ hs : List Int, But p H2 J ∧ PoolAt J p ∧ J D = some (.lst (hs.map V.int)) ∧ hs.length = i ∧ ∀ h ∈ hs, 0 ≤ h ∧ h ≤ 8) ⟨[], same_but (same_new nD), p2.same (same_new nD), upd_same, rfl, fun s h => nomatch h⟩ (fun i J _ ⟨_, b, _⟩ => .of (b _ _ nlp hl2)) ?_ ?_
  · rintro i x J0 J hi ⟨hs, bj, pj, hD, el, hhs⟩ ⟨rfl, hx⟩
    obtain ⟨dd, ed, hdd⟩ := dps_get (dps_but p2.ch bj hxs2 (cells_noL cs)) hx
    obtain ⟨c, ec, rfl⟩ := get_mapA ed
    obtain ⟨t, x1, x2, rfl, ht, e1, e2⟩ := dp2 hdd
    cases dp_int e1
    have okc := hok c (List.mem_of_getElem? ec)
    refine ⟨rfl, _, rfl, _, rfl, _, _, _, _, rfl, rfl, ht, at0, p, c.1, rfl, pj, ⟨okc.1, by have := okc.2.1; omega⟩, fun u J2 b6 p6 hu => ?_⟩
    have hD2 := b6 _ _ nDp hD
    have bb : But D J2 (upd J2 D (.lst (hs.map V.int ++ [.int u]))) := But.upd
    refine ⟨hs.map V.int, hD2, by rw [List.length_map, sizeLine_eq]; omega, hs ++ [u], fun b o n e => bb _ _ (ne_of_none e nD) (b6 _ _ n (bj _ _ n e)), p6.but (Ne.symm nDp) bb, by rw [List.map_append]; exact upd_same, by simp [el], fun s hs2 => ?_⟩
    rcases List.mem_append.mp hs2 with h | h
    · exact hhs s h
    · rw [List.mem_singleton.mp h]
      have := okc.2.1
      omega
  rintro H3 ⟨hs, bj, p3, hD, lhs, hhs⟩
  refine .inl ⟨D, _, rfl, .of hD, fun st nst => ?_⟩
  have w4 := same_new (o := .tup (hs.map V.int)) nst
  have hst : upd H3 st (.tup (hs.map V.int)) st = some (.tup (hs.map V.int)) := upd_same
  have b24 := bj.trans (same_but (D := p) w4)
  have p4 := p3.same w4
  generalize upd H3 st (.tup (hs.map V.int)) = H4 at w4 hst b24 p4 ⊢
  have b14 := b12.trans b24
  have sq : SqT K H4 st (hs.map V.int) := .of hst
  have dhs : ∀ G, DpAll K G (hs.map V.int) (hs.map PyData.int) := fun G => ints_dps
  have fin : ∀ (v : V) (d : PyData) (G : Hp), Same H4 G → Dp K G v d → fit 58 d → Q v G := fun v d G s h f => q v (some d) G (b14.trans (same_but s)) (p4.same s) (.dat h) (fitT_of f)
  have fth : ∀ {n : Nat} (es : List PyData), es.length ≤ 100000 → (∀ d ∈ es, fit n d) → n + 1 ≤ 58 → fit 58 (.tuple es) := fun es l h m => fit_up (fit_tup l h) m
  refine ⟨_, rfl, _, _, rfl, rfl, _, rfl, ?_⟩
  by_cases k2 : k < 2
  · rw [decide_eq_true k2]
    exact iteT ⟨_, rfl, fin _ (.tuple (hs.map PyData.int)) H4 (Same.refl _) (.tup sq (dhs _)) (fth (n := 0) _ (by rw [List.length_map]; omega) (fit_ints fun d h => h) (by decide))⟩
  rw [decide_eq_false k2]
  obtain ⟨h0, hat0, hh0⟩ : ∃ h, atI (hs.map V.int) at_ = some (.int h) ∧ 0 ≤ h ∧ h ≤ 8 := by
    have e := atK (l := hs) (k := at_) (n := hs.length) hat.1 (by omega) rfl
    exact ⟨_, e, hhs _ (getD_mem (by omega))⟩
  obtain ⟨hf, hatf, hhf⟩ : ∃ h, atI (hs.map V.int) 0 = some (.int h) ∧ 0 ≤ h ∧ h ≤ 8 := by
    have e := atK (l := hs) (k := 0) (n := hs.length) (by decide) (by omega) rfl
    exact ⟨_, e, hhs _ (getD_mem (by show 0 < hs.length; omega))⟩
  have lh6 : hs.length ≤ 6 := by omega
  refine iteF ⟨_, rfl, rfl, _, rfl, ?_⟩
  by_cases k2 : k = 2
  · rw [decide_eq_true (show V.int k = V.int 2 from congrArg V.int k2)]
    refine iteT ⟨_, rfl, p, 5, rfl, p4, by omega, fun j H5 b5 p5 hj => ?_⟩
    have hst5 := b5 _ _ (fun e => by rw [e] at hst; obtain ⟨_, _, _, z, _⟩ := p4; rw [hst] at z; cases z) hst
    have sq5 : SqT K H5 st (hs.map V.int) := .of hst5
    refine ⟨_, rfl, (by show 1 ≤ sizeLine; decide), fun z nz => ?_⟩
    have sz := same_new (o := .tup [.int 0]) nz
    have ez : SqT K (upd H5 z (.tup [.int 0])) z [.int 0] := .of upd_same
    generalize upd H5 z (.tup [.int 0]) = G1 at sz ez ⊢
    refine catA_dp (same_t sz sq5) (dhs _) ez (es := [.int 0]) (.cons (.int 0) .nil) (by simp only [List.length_map, List.length_singleton]; omega) fun r1 y1 G2 t2 q1 d1 => ?_
    refine ⟨_, rfl, _, rfl, _, rfl, slA_dp none (some at_) (same_t (sz.trans t2) sq5) (dhs _) fun r2 y2 e2 G3 t3 q2 d2 m2 l2 => ?_⟩
    refine ⟨_, rfl, _, rfl, _, _, rfl, rfl, _, rfl, ?_⟩
    show tNoPart _ _ _
    unfold tNoPart
    refine slA_dp (some (at_ + 1)) none (same_t ((sz.trans t2).trans t3) sq5) (dhs _) fun r3 y3 e3 G4 t4 q3 d3 m3 l3 => ?_
    rw [List.length_map] at l2 l3
    refine catA_dp (same_t t4 q2) (dps_same t4 d2) q3 d3 (by omega) fun r4 y4 G5 t5 q4 d4 => ?_
    have s15 := (((sz.trans t2).trans t3).trans t4).trans t5
    refine ⟨_, rfl, st, _, rfl, .inr (same_t s15 sq5), fun L1 nL1 => ?_⟩
    have s6 := same_new (o := .lst (hs.map V.int)) nL1
    have eL1 : upd G5 L1 (.lst (hs.map V.int)) L1 = some (.lst (hs.map V.int)) := upd_same
    have p6 := p5.same (s15.trans s6)
    have nL1p := pool_nl (p5.same s15) nL1
    generalize upd G5 L1 (.lst (hs.map V.int)) = G6 at s6 eL1 p6 ⊢
    refine ⟨_, rfl, p, rfl, p6, fun v o G7 b7 p7 tg ft => ?_⟩
    have hst7 := b7 _ _ (fun e => by rw [e] at hst; obtain ⟨_, _, _, z, _⟩ := p4; rw [hst] at z; cases z) ((s15.trans s6) _ _ hst5)
    refine ⟨_, rfl, _, _, _, _, rfl, rfl, .of hst7, hatf, (by show 5 ≤ sizeLine; decide), fun L nL => ?_⟩
    have s8 := same_new (o := .lst [.ref r1, .ref r4, .ref L1, v, .int hf]) nL
    have eL : upd G7 L (.lst [.ref r1, .ref r4, .ref L1, v, .int hf]) L = some (.lst [.ref r1, .ref r4, .ref L1, v, .int hf]) := upd_same
    have d1' : Dp K G6 (.ref r1) (.tuple (hs.map PyData.int ++ [.int 0])) := dp_same (((t3.trans t4).trans t5).trans s6) (.tup q1 d1)
    have d4' : Dp K G6 (.ref r4) (.tuple (e2 ++ e3)) := dp_same s6 (.tup q4 d4)
    have n1 : NoL (.tuple (hs.map PyData.int ++ [.int 0])) := .tup fun d h => by
      rcases List.mem_append.mp h with h | h
      · exact ints_noL hs d h
      · rw [List.mem_singleton.mp h]; exact .int 0
    have n4 : NoL (.tuple (e2 ++ e3)) := .tup fun d h => by
      rcases List.mem_append.mp h with h | h
      · exact ints_noL hs d (m2 d h)
      · exact ints_noL hs d (m3 d h)
    have d1' := dp_but p6.ch b7 d1' n1
    have d4' := dp_but p6.ch b7 d4' n4
    have eL1 := b7 _ _ nL1p eL1
    have bAll := b14.trans (b5.trans ((same_but (s15.trans s6)).trans (b7.trans (same_but (D := p) s8))))
    have p8 := p7.same s8
    generalize upd G7 L (.lst [.ref r1, .ref r4, .ref L1, v, .int hf]) = G8 at s8 eL bAll p8 ⊢
    have fin8 : ∀ (v : V) (d : PyData), Dp K G8 v d → fit 58 d → Q v G8 := fun v d h f => q v (some d) G8 bAll p8 (.dat h) (fitT_of f)
    refine ⟨_, rfl, ?_⟩
    have : j = 0 ∨ j = 1 ∨ j = 2 ∨ j = 3 ∨ j = 4 := by omega
    rcases this with rfl | rfl | rfl | rfl | rfl
    · refine ⟨L, _, _, _, rfl, rfl, .of eL, at0, fin8 _ _ (dp_same s8 d1') (fth (n := 0) _ (by rw [List.length_append, List.length_map, List.length_singleton]; omega) (fun d h => ?_) (by decide))⟩
      rcases List.mem_append.mp h with h | h
      · exact fit_ints (fun d h => h) d h
      · rw [List.mem_singleton.mp h]; exact fit_i
    · refine ⟨L, _, _, _, rfl, rfl, .of eL, at1, fin8 _ _ (dp_same s8 d4') (fth (n := 0) _ (by rw [List.length_append]; omega) (fun d h => ?_) (by decide))⟩
      rcases List.mem_append.mp h with h | h
      · exact fit_ints m2 d h
      · exact fit_ints m3 d h
    · exact ⟨L, _, _, _, rfl, rfl, .of eL, at2, fin8 _ (.list (hs.map PyData.int)) (.lst (.of (s8 _ _ eL1)) (dhs _)) (fit_up (fit_lst (n := 0) (by rw [List.length_map]; omega) (fit_ints fun d h => h)) (by decide))⟩
    · exact ⟨L, _, _, _, rfl, rfl, .of eL, at3, q v o G8 bAll p8 (tg.same s8) ft⟩
    · exact ⟨L, _, _, _, rfl, rfl, .of eL, atI_nat (j := 4) rfl, fin8 _ (.int hf) (.int hf) trivial⟩
  rw [decide_eq_false (show ¬ V.int k = V.int 2 from fun z => k2 (V.int.inj z))]
  have hl4 : H4 l = some (.lst xs) := b24 _ _ nlp hl2
  obtain ⟨xc, hatc, hxc⟩ := list_at hat
  obtain ⟨dd, ed, hdd⟩ := dps_get (dps_but p2.ch b24 hxs2 (cells_noL cs)) hxc
  obtain ⟨cc, ec, rfl⟩ := get_mapA ed
  obtain ⟨tc, x1, x2, rfl, htc, f1, f2⟩ := dp2 hdd
  cases dp_int f1
  have h09 : 0 ≤ h0 ∧ h0 ≤ 9 := by omega
  refine iteF ⟨_, rfl, _, rfl, _, _, _, _, rfl, rfl, .of hl4, hatc, _, _, _, _, rfl, rfl, htc, at0, ?_⟩
  refine ⟨_, rfl, _, rfl, _, rfl, _, _, rfl, rfl, _, rfl, _, rfl, _, _, _, _, rfl, rfl, sq, hat0, rfl, _, rfl, _, rfl, _, _, _, _, rfl, rfl, sq, hat0, _, rfl, digJ_log h09, ?_⟩
  rw [digJ_str h09]
  refine ⟨_, rfl, _, rfl, _, _, _, _, rfl, rfl, sq, hat0, (by show 1 ≤ sizeLine; decide), fun z nz => ⟨_, _, rfl, rfl, ⟨by decide, by decide, by decide⟩, (by show 8 ≤ sizeLine; decide), fun L nL => ?_⟩⟩
  have s5 := same_new (o := .tup [.int h0]) nz
  have ez : upd H4 z (.tup [.int h0]) z = some (.tup [.int h0]) := upd_same
  generalize upd H4 z (.tup [.int h0]) = H5 at s5 ez nL ⊢
  have s6 := same_new (o := .lst [.int cc.1, .int (-1), .int (cc.1 - 1), .bl (decide (V.int h0 = V.int 1)), .str (dgJ h0), .non, .ref z, .int (10 ^ (20 : Int).toNat)]) nL
  have eL : upd H5 L (.lst [.int cc.1, .int (-1), .int (cc.1 - 1), .bl (decide (V.int h0 = V.int 1)), .str (dgJ h0), .non, .ref z, .int (10 ^ (20 : Int).toNat)]) L = some (.lst [.int cc.1, .int (-1), .int (cc.1 - 1), .bl (decide (V.int h0 = V.int 1)), .str (dgJ h0), .non, .ref z, .int (10 ^ (20 : Int).toNat)]) := upd_same
  have p6 := p4.same (s5.trans s6)
  have nLp := pool_nl (p4.same s5) nL
  generalize upd H5 L (.lst [.int cc.1, .int (-1), .int (cc.1 - 1), .bl (decide (V.int h0 = V.int 1)), .str (dgJ h0), .non, .ref z, .int (10 ^ (20 : Int).toNat)]) = H6 at s6 eL p6 ⊢
  refine ⟨_, rfl, p, 8, rfl, p6, by omega, fun j H7 b7 p7 hj => ?_⟩
  have ne_st : ∀ {a : Addr} {ys : List V} {G : Hp}, PoolAt G p → G a = some (.tup ys) → a ≠ p := fun h e z => by
    rw [z] at e
    obtain ⟨_, _, _, w, _⟩ := h
    rw [e] at w
    cases w
  have eL7 := b7 _ _ nLp eL
  have ez7 := b7 _ _ (ne_st p6 (s6 _ _ ez)) (s6 _ _ ez)
  have hst7 := b7 _ _ (ne_st p6 ((s5.trans s6) _ _ hst)) ((s5.trans s6) _ _ hst)
  have b17 := b14.trans ((same_but (D := p) (s5.trans s6)).trans b7)
  have pick : ∃ (x : V) (od : PyData), atI [V.int cc.1, .int (-1), .int (cc.1 - 1), .bl (decide (V.int h0 = V.int 1)), .str (dgJ h0), .non, .ref z, .int (10 ^ (20 : Int).toNat)] j = some x ∧ Dp K H7 x od ∧ fit 5 od := by
    have : j = 0 ∨ j = 1 ∨ j = 2 ∨ j = 3 ∨ j = 4 ∨ j = 5 ∨ j = 6 ∨ j = 7 := by omega
    rcases this with rfl | rfl | rfl | rfl | rfl | rfl | rfl | rfl
    · exact ⟨_, _, at0, .int _, fit_i⟩
    · exact ⟨_, _, at1, .int _, fit_i⟩
    · exact ⟨_, _, at2, .int _, fit_i⟩
    · exact ⟨_, _, at3, .bl _, trivial⟩
    · exact ⟨_, _, atI_nat (j := 4) rfl, .str _, dgs_fit h09⟩
    · exact ⟨_, _, atI_nat (j := 5) rfl, .non, trivial⟩
    · exact ⟨_, .tuple [.int h0], atI_nat (j := 6) rfl, .tup (.of ez7) (.cons (.int _) .nil), fit_tup (n := 4) (by show 1 ≤ 100000; decide) (fun d h => by rw [List.mem_singleton.mp h]; exact fit_i)⟩
    · exact ⟨_, _, atI_nat (j := 7) rfl, .int _, fit_i⟩
  obtain ⟨x, od, hatx, dx, fx⟩ := pick
  have sq7 : SqT K H7 st (hs.map V.int) := .of hst7
  refine ⟨L, _, _, _, rfl, rfl, .of eL7, hatx, ?_⟩
  refine ⟨_, rfl, _, rfl, _, rfl, slA_dp none (some at_) sq7 (dhs _) fun r2 y2 e2 G3 t3 q2 d2 m2 l2 => ?_⟩
  refine ⟨_, rfl, (by show 1 ≤ sizeLine; decide), fun u nu => ?_⟩
  have su := same_new (o := .tup [x]) nu
  have eu : SqT K (upd G3 u (.tup [x])) u [x] := .of upd_same
  generalize upd G3 u (.tup [x]) = G4 at su eu ⊢
  rw [List.length_map] at l2
  refine catA_dp (same_t su q2) (dps_same su d2) eu (es := [od]) (.cons (dp_same (t3.trans su) dx) .nil) (by simp only [List.length_singleton]; omega) fun r4 y4 G5 t5 q4 d4 => ?_
  refine ⟨_, rfl, _, rfl, _, _, rfl, rfl, _, rfl, ?_⟩
  show tNoPart _ _ _
  unfold tNoPart
  refine slA_dp (some (at_ + 1)) none (same_t ((t3.trans su).trans t5) sq7) (dhs _) fun r3 y3 e3 G6 t6 q3 d3 m3 l3 => ?_
  rw [List.length_map] at l3
  refine catA_dp (same_t t6 q4) (dps_same t6 d4) q3 d3 (by simp only [List.length_append, List.length_singleton]; omega) fun r5 y5 G7 t7 q5 d5 => ?_
  have s77 := (((t3.trans su).trans t5).trans t6).trans t7
  refine q _ (some (.tuple (e2 ++ [od] ++ e3))) G7 (b17.trans (same_but s77)) (p7.same s77) (.dat (.tup q5 d5)) (fitT_of (fit_up (fit_tup (n := 5) (by simp only [List.length_append, List.length_singleton]; omega) (fun d h => ?_)) (by decide)))
  rcases List.mem_append.mp h with h | h
  · rcases List.mem_append.mp h with h | h
    · exact fit_ints m2 d h
    · rw [List.mem_singleton.mp h]; exact fx
  · exact fit_ints m3 d h
end
end J

end M

set_option Elab.async false
set_option linter.all false
set_option maxRecDepth 100000
set_option maxHeartbeats 2000000
namespace M
open PySem PySem.Spec PyProof.Rows L2

theorem fit_dpt : ∀ {n : Nat} {d : PyData}, fit n d → dpt d ≤ n ∧ nar d := by
  intro n
  induction n with
  | zero =>
    intro d h
    cases d with
    | list ds => exact h.elim
    | tuple ds => exact h.elim
    | dict _ => exact h.elim
    | _ => exact ⟨Nat.le_refl 0, trivial⟩
  | succ n ih =>
    intro d h
    have z : ∀ ds : List PyData, (∀ d ∈ ds, fit n d) → dpts ds ≤ n ∧ nars ds := by
      intro ds
      induction ds with
      | nil => exact fun _ => ⟨Nat.zero_le _, trivial⟩
      | cons d r ih2 =>
        intro h
        obtain ⟨a1, a2⟩ := ih (h d List.mem_cons_self)
        obtain ⟨b1, b2⟩ := ih2 fun x hx => h x (List.mem_cons_of_mem _ hx)
        exact ⟨Nat.max_le.mpr ⟨a1, b1⟩, a2, b2⟩
    cases d with
    | list ds =>
      obtain ⟨a, b⟩ := z ds h.2
      exact ⟨Nat.succ_le_succ a, h.1, b⟩
    | tuple ds =>
      obtain ⟨a, b⟩ := z ds h.2
      exact ⟨Nat.succ_le_succ a, h.1, b⟩
    | dict _ => exact h.elim
    | _ => exact ⟨Nat.zero_le _, trivial⟩
namespace J
section
variable {P : Program} {w : World} {K : PySem.W.Frag} {mg : Str → Option Value} {base : Heap}
def spLCho (K : PySem.W.Frag) : Sp := fun vs H Q _ => ∃ (p : Addr) (y : V) (v : Vlt) (o : Option PyData), vs = [.ref p, y] ∧ VaultAt K H p v ∧ VGood v ∧ Tg K H y o ∧ fitT o ∧
  (∀ d ∈ v.deeds, o = some (.str d.1) → Q (.int d.2.1) H) ∧ ((∀ d ∈ v.deeds, o ≠ some (.str d.1)) → Q (.str "none") H)
theorem ca_l_choices (T : Txt w K mg) : Ca P w K mg base 4 "_law_choices" (spLCho K) := by
  refine ca_of (N := ["_law_vault", "_law_name_here", "_law_choices_here"]) (ps := ["_law_vault", "_law_name_here"]) T.f_l_choices T.g_law_choices ⟨rfl, rfl, rfl, by decide +kernel, rfl, by decide +kernel, by decide +kernel⟩ (fun _ _ _ _ _ _ us hl => match us, hl with | [_, _], _ => rfl)
    (fun vs H Q E h => by obtain ⟨p, y, v, o, rfl, hv, gv, ho, ft, q1, q2⟩ := h; rfl) (fun cdv A outer s H vs Q E hr h => ?_)
  have nd : (["_law_vault", "_law_name_here", "_law_choices_here"] : List Str).Nodup := by decide +kernel
  obtain ⟨p, y, v, o, rfl, hv, gv, ho, ft, q1, q2⟩ := h
  refine ⟨_, (pss_cons (ps_set (i := 2) nd rfl (.inl rfl) pe_non)
      (pss_cons (ps_tryH (hands_one ⟨rfl, by decide, .inl T.g_NoName⟩ rfl (fun _ _ _ _ _ hz hf => by exact (pss_one (ps_set (i := 2) nd rfl (.inl rfl) pe_str))) (hands_nil (Wout := fun _ _ _ _ => False) rfl rfl takes0)) rfl rfl (fun W pn xe tk _ => by exact (pss_one (ps_set (i := 2) nd rfl (.inl rfl) (pe_meX (mex_Vault_choices T) hr tk (pv 0) (pa_cons (pv 1) pa_nil))))) pss_nil)
      (pss_one (ps_ret (pv 2))))), ?_⟩
  obtain ⟨dx, fs, e1, e2⟩ := vat_me hv "choices"
  refine ⟨_, rfl, p, dx, fs, rfl, e1, e2, _, rfl, p, y, v, o, rfl, hv, gv, ho, ft, fun d hd e => ?_, fun h => ⟨true, T.xm_NoName, fun _ a na => ?_, fun z => nomatch z⟩⟩
  · exact ⟨_, rfl, q1 d hd e⟩
  · exact ⟨_, rfl, q2 h⟩
def spLRow (K : PySem.W.Frag) : Sp := fun vs H Q _ => ∃ (p : Addr) (y : V) (v : Vlt) (o : Option PyData), vs = [.ref p, y] ∧ VaultAt K H p v ∧ VGood v ∧ Tg K H y o ∧ fitT o ∧
  (∀ d ∈ v.deeds, o = some (.str d.1) → ∀ x, Dp K H x (.tuple (rowsD d.2.2)) → Q x H) ∧ ((∀ d ∈ v.deeds, o ≠ some (.str d.1)) → Q (.str "none") H)
theorem ca_l_rows_of (T : Txt w K mg) : Ca P w K mg base 4 "_law_rows_of" (spLRow K) := by
  refine ca_of (N := ["_law_vault", "_law_name_here", "_law_rows_here"]) (ps := ["_law_vault", "_law_name_here"]) T.f_l_rows_of T.g_law_rows_of ⟨rfl, rfl, rfl, by decide +kernel, rfl, by decide +kernel, by decide +kernel⟩ (fun _ _ _ _ _ _ us hl => match us, hl with | [_, _], _ => rfl)
    (fun vs H Q E h => by obtain ⟨p, y, v, o, rfl, hv, gv, ho, ft, q1, q2⟩ := h; rfl) (fun cdv A outer s H vs Q E hr h => ?_)
  have nd : (["_law_vault", "_law_name_here", "_law_rows_here"] : List Str).Nodup := by decide +kernel
  obtain ⟨p, y, v, o, rfl, hv, gv, ho, ft, q1, q2⟩ := h
  refine ⟨_, (pss_cons (ps_set (i := 2) nd rfl (.inl rfl) pe_non)
      (pss_cons (ps_tryH (hands_one ⟨rfl, by decide, .inl T.g_NoName⟩ rfl (fun _ _ _ _ _ hz hf => by exact (pss_one (ps_set (i := 2) nd rfl (.inl rfl) pe_str))) (hands_nil (Wout := fun _ _ _ _ => False) rfl rfl takes0)) rfl rfl (fun W pn xe tk _ => by exact (pss_one (ps_set (i := 2) nd rfl (.inl rfl) (pe_meX (mex_Vault_rows T) hr tk (pv 0) (pa_cons (pv 1) pa_nil))))) pss_nil)
      (pss_one (ps_ret (pv 2))))), ?_⟩
  obtain ⟨dx, fs, e1, e2⟩ := vat_me hv "rows"
  refine ⟨_, rfl, p, dx, fs, rfl, e1, e2, _, rfl, p, y, v, o, rfl, hv, gv, ho, ft, fun d hd e x hx => ?_, fun h => ⟨true, T.xm_NoName, fun _ a na => ?_, fun z => nomatch z⟩⟩
  · exact ⟨_, rfl, q1 d hd e x hx⟩
  · exact ⟨_, rfl, q2 h⟩
def spAskN (K : PySem.W.Frag) : Sp := fun vs H Q _ => ∃ (p l : Addr) (y : V) (v : Vlt) (o : Option PyData) (xs : List V), vs = [.ref p, .ref l, y] ∧ VaultAt K H p v ∧ VGood v ∧ SqL K H l xs ∧ DpAll K H xs (v.deeds.map deedD) ∧ Tg K H y o ∧ fitT o ∧ ∀ H', Same H H' → Q (.bl true) H'
theorem ca_l_asked_name (T : Txt w K mg) : Ca P w K mg base 52 "_law_asked_name" (spAskN K) := by
  refine ca_of (N := ["_law_vault", "_law_deeds", "_law_name_here", "_law_due", "_law_rows_here", "_law_deed"]) (ps := ["_law_vault", "_law_deeds", "_law_name_here"]) T.f_l_asked_name T.g_law_asked_name ⟨rfl, rfl, rfl, by decide +kernel, rfl, by decide +kernel, by decide +kernel⟩ (fun _ _ _ _ _ _ us hl => match us, hl with | [_, _, _], _ => rfl)
    (fun vs H Q E h => by obtain ⟨p, l, y, v, o, xs, rfl, hv, gv, hl, hxs, ho, ft, q⟩ := h; rfl) (fun cdv A outer s H vs Q E hr h => ?_)
  have nd : (["_law_vault", "_law_deeds", "_law_name_here", "_law_due", "_law_rows_here", "_law_deed"] : List Str).Nodup := by decide +kernel
  obtain ⟨p, l, y, v, o, xs, rfl, hv, gv, hl, hxs, ho, ft, q⟩ := h
  refine ⟨_, (pss_cons (ps_set (i := 3) nd rfl (.inl rfl) pe_str)
      (pss_cons (ps_set (i := 4) nd rfl (.inl rfl) pe_str)
      (pss_cons (ps_for PassesOwn.never rfl (pi_list (pv 1)) (pg_name (i := 5) nd rfl (.inl rfl)) (pss_one (ps_if (PW.pt (pw_and (pt_val (pe_is .str T.b_isinstance (pv 2) T.b_str boot_str)) (pw_and1 (pt_cmpR op_eq (pe_ix ix_tup (pv 5) pe_int (fun _ _ => rfl)) (pv 2) (nomark _))))) (pss_cons (ps_set (i := 3) nd rfl (.inl rfl) (pe_ix ix_tup (pv 5) pe_int (fun _ _ => rfl)))
      (pss_one (ps_set (i := 4) nd rfl (.inl rfl) (pe_ix ix_tup (pv 5) pe_int (fun _ _ => rfl))))) pss_nil)))
      (pss_one (ps_ret (pe_and (pe_ca (ca_l_same 50 T) hr (pa_cons (pv 3) (pa_cons (pe_ca (ca_l_choices T) hr (pa_cons (pv 0) (pa_cons (pv 2) pa_nil))) pa_nil))) (pe_one (pe_ca (ca_l_same 50 T) hr (pa_cons (pv 4) (pa_cons (pe_ca (ca_l_rows_of T) hr (pa_cons (pv 0) (pa_cons (pv 2) pa_nil))) pa_nil)))))))))), ?_⟩
  obtain ⟨k, kd, k1, k2⟩ := tg_kd (own_ok T.e_own_Vault) T.c_Vault ho
  have lx : xs.length = v.deeds.length := by rw [dps_len hxs, List.length_map]
  refine ⟨_, rfl, l, rfl, ⟨_, hl⟩, for_list (xs := xs) (fun i σ' H' => ∃ (du rw : V) (z : Option V), σ' = [some (.ref p), some (.ref l), some y, some du, some rw, z] ∧ H' = H ∧
    ((∃ (j : Nat) (d : Str × Int × List Row), j < i ∧ v.deeds[j]? = some d ∧ o = some (.str d.1) ∧ du = .int d.2.1 ∧ Dp K H rw (.tuple (rowsD d.2.2))) ∨ ((∀ (j : Nat) (d : Str × Int × List Row), j < i → v.deeds[j]? = some d → o ≠ some (.str d.1)) ∧ du = .str "none" ∧ rw = .str "none")))
    ⟨_, _, none, rfl, rfl, .inr ⟨fun j d h => absurd h (Nat.not_lt_zero j), rfl, rfl⟩⟩ (fun i σ' H' _ ⟨_, _, _, _, e, _⟩ => e ▸ hl) ?_ ?_⟩
  · rintro i x σ' H' hx ⟨du, rw_, z, rfl, rfl, inv⟩
    obtain ⟨dd, ed, hdd⟩ := dps_get hxs hx
    obtain ⟨cc, ec, rfl⟩ := get_mapA ed
    have hm := List.mem_of_getElem? ec
    obtain ⟨t, x1, x2, x3, rfl, ht, e1, e2, e3⟩ := dp3 hdd
    cases dp_str e1
    cases dp_int e2
    have stay : o ≠ some (.str cc.1) → (∃ (j : Nat) (d : Str × Int × List Row), j < i + 1 ∧ v.deeds[j]? = some d ∧ o = some (.str d.1) ∧ du = .int d.2.1 ∧ Dp K H' rw_ (.tuple (rowsD d.2.2))) ∨ ((∀ (j : Nat) (d : Str × Int × List Row), j < i + 1 → v.deeds[j]? = some d → o ≠ some (.str d.1)) ∧ du = .str "none" ∧ rw_ = .str "none") := by
      intro n
      rcases inv with ⟨j, d, h1, h2⟩ | ⟨h1, h2⟩
      · exact .inl ⟨j, d, by omega, h2⟩
      · refine .inr ⟨fun j d hj hd => ?_, h2⟩
        rcases Nat.lt_or_eq_of_le (Nat.le_of_lt_succ hj) with hj | rfl
        · exact h1 j d hj hd
        · cases (Option.some.inj (ec.symm.trans hd))
          exact n
    refine ⟨_, rfl, _, _, rfl, kd, _, rfl, ?_⟩
    by_cases c : ∃ s, o = some (.str s)
    case neg =>
      have e : k.is .str = false := by
        cases o with
        | none =>
          have := (k2 rfl).2.1
          cases k <;> first | rfl | exact absurd rfl this
        | some d =>
          rw [k1 d rfl]
          cases d <;> first | rfl | exact absurd ⟨_, rfl⟩ c
      rw [e]
      exact iteF ⟨_, _, _, rfl, rfl, stay fun z => c ⟨_, z⟩⟩
    obtain ⟨s, rfl⟩ := c
    cases k1 _ rfl
    cases ho with | dat hs => ?_
    cases dp_str hs
    refine iteT ⟨_, rfl, _, _, _, _, rfl, rfl, ht, at0, _, rfl, rfl, _, rfl, ?_⟩
    by_cases c2 : cc.1 = s
    · rw [decide_eq_true (show V.str cc.1 = V.str s from congrArg V.str c2)]
      exact iteT ⟨_, rfl, _, _, _, _, rfl, rfl, ht, at1, _, rfl, _, _, _, _, rfl, rfl, ht, at2, _, _, _, rfl, rfl, .inl ⟨i, cc, by omega, ec, by rw [c2], rfl, e3⟩⟩
    · rw [decide_eq_false (show ¬ V.str cc.1 = V.str s from fun z => c2 (V.str.inj z))]
      exact iteF ⟨_, _, _, rfl, rfl, stay fun z => c2 (by cases z; rfl)⟩
  · rintro σ' H' ⟨du, rw_, z, rfl, rfl, inv⟩
    rcases inv with ⟨j, d, h1, h2, h3, rfl, h5⟩ | ⟨h1, rfl, rfl⟩
    · have hm := List.mem_of_getElem? h2
      have one : ∀ d' ∈ v.deeds, o = some (.str d'.1) → d' = d := fun d' hd' e => by
        rw [h3] at e
        have e : d.1 = d'.1 := by
          have := Option.some.inj e
          exact PyData.str.inj this
        obtain ⟨j', hj', ej'⟩ := List.mem_iff_getElem.mp hd'
        have n1 : (v.deeds.map (·.1))[j]? = some d.1 := by rw [List.getElem?_map, h2]; rfl
        have n2 : (v.deeds.map (·.1))[j']? = some d.1 := by rw [List.getElem?_map, List.getElem?_eq_getElem hj', ej', e]; rfl
        have := nd_ix gv.nd n1 n2
        subst this
        rw [← ej']
        exact Option.some.inj ((List.getElem?_eq_getElem hj').symm.trans h2)
      have ft2 := fit_up (rows_fit (gv.ds d hm).2.2.1 (by decide) (by have := (gv.ds d hm).2.2.2.2; omega)) (show _ ≤ 49 by decide)
      refine ⟨_, rfl, _, rfl, _, rfl, p, y, v, o, rfl, hv, gv, ho, ft, fun d' hd' e => ?_, fun n => absurd h3 (n d hm)⟩
      cases one d' hd' e
      refine ⟨_, _, .int d.2.1, rfl, .int _, .int _, Nat.zero_lt_succ _, trivial, fun H1 s1 => ⟨_, rfl, iteT ?_⟩⟩
      refine ⟨_, rfl, _, rfl, _, rfl, p, y, v, o, rfl, hv.same s1, gv, ho.same s1, ft, fun d' hd' e x hx => ?_, fun n => absurd h3 (n d hm)⟩
      cases one d' hd' e
      exact ⟨_, _, _, rfl, dp_same s1 h5, hx, Nat.lt_succ_of_le (fit_dpt ft2).1, (fit_dpt ft2).2, fun H2 s2 => q H2 (s1.trans s2)⟩
    · have no : ∀ d ∈ v.deeds, o ≠ some (.str d.1) := fun d hd => by
        obtain ⟨j, hj, e⟩ := List.mem_iff_getElem.mp hd
        exact h1 j d (by omega) (by rw [List.getElem?_eq_getElem hj, e])
      have fn : fit 49 (.str "none") := atom_fit (d := .str "none") ⟨by decide +kernel, by decide +kernel⟩
      refine ⟨_, rfl, _, rfl, _, rfl, p, y, v, o, rfl, hv, gv, ho, ft, fun d hd e => absurd e (no d hd), fun _ => ?_⟩
      refine ⟨_, _, .str "none", rfl, .str _, .str _, Nat.zero_lt_succ _, trivial, fun H1 s1 => ⟨_, rfl, iteT ?_⟩⟩
      refine ⟨_, rfl, _, rfl, _, rfl, p, y, v, o, rfl, hv.same s1, gv, ho.same s1, ft, fun d hd e => absurd e (no d hd), fun _ => ?_⟩
      exact ⟨_, _, .str "none", rfl, .str _, .str _, Nat.zero_lt_succ _, trivial, fun H2 s2 => q H2 (s1.trans s2)⟩
end
end J

end M

set_option Elab.async false
set_option linter.all false
set_option maxRecDepth 100000
set_option maxHeartbeats 2000000
namespace M
open PySem PySem.Spec PyProof.Rows L2

theorem ix_listK {X : Cx} (K : PySem.W.Frag) (hK : X.K = K) : IxR X (rIxL K) := hK ▸ ix_list
theorem eqv_zip : ∀ {ss hs gs : List Int}, ss.length = hs.length → ss.length = gs.length → PyData.eqvAll ((ss.zip hs).map cellD) ((ss.zip gs).map cellD) = PyData.eqvAll (hs.map PyData.int) (gs.map PyData.int)
  | [], [], [], _, _ => rfl
  | s :: ss, h :: hs, g :: gs, l1, l2 => by
    have ih := eqv_zip (ss := ss) (hs := hs) (gs := gs) (by simpa using l1) (by simpa using l2)
    simp only [List.zip_cons_cons, List.map_cons, PyData.eqvAll, ih]
    have : PyData.eqv (cellD (s, h)) (cellD (s, g)) = PyData.eqv (.int h) (.int g) := by simp [cellD, PyData.eqv, PyData.eqvAll]
    rw [this]
  | [], _ :: _, _, l, _ => nomatch l
  | [], [], _ :: _, _, l => nomatch l
  | _ :: _, [], _, l, _ => nomatch l
  | _ :: _, _ :: _, [], _, l => nomatch l
theorem zip_self : ∀ cs : List (Int × Int), (cs.map (·.1)).zip (cs.map (·.2)) = cs
  | [] => rfl
  | c :: cs => by rw [List.map_cons, List.map_cons, List.zip_cons_cons, zip_self cs]
/-- a state equals the first one if and only if the vaults are equal -/
theorem veq_begun {v : Vlt} {hs : List Int} (g : VGood v) (so : StateOk (v.cells.map (·.1)) hs) : vEq ⟨begunC v hs, v.deeds⟩ v = PyData.eqv (.tuple (hs.map PyData.int)) (.tuple ((v.cells.map (·.2)).map PyData.int)) := by
  have d := (fit_lay (deeds_fit g)).2.2
  unfold vEq
  rw [d, Bool.and_true, PyData.eqv, PyData.eqv]
  have e : v.cells.map cellD = ((v.cells.map (·.1)).zip (v.cells.map (·.2))).map cellD := by rw [zip_self]
  rw [e]
  exact eqv_zip so.1 (by rw [List.length_map, List.length_map])
theorem veq_self {v : Vlt} (g : VGood v) : vEq v v = true := by
  unfold vEq
  rw [(fit_lay (deeds_fit g)).2.2, (fit_lay (cells_fit g)).2.2]
  rfl
namespace J
section
variable {P : Program} {w : World} {K : PySem.W.Frag} {mg : Str → Option Value} {base : Heap}
def spAskS (K : PySem.W.Frag) : Sp := fun vs H Q _ => ∃ (p cl dl : Addr) (y : V) (v : Vlt) (o : Option PyData) (cxs dxs : List V), vs = [.ref p, .ref cl, .ref dl, y] ∧ VaultAt K H p v ∧ VGood v ∧ SqL K H cl cxs ∧ DpAll K H cxs (v.cells.map cellD) ∧ SqL K H dl dxs ∧ DpAll K H dxs (v.deeds.map deedD) ∧ Tg K H y o ∧ ∀ H', Same H H' → Q (.bl true) H'
theorem ca_l_asked_state (T : Txt w K mg) : Ca P w K mg base 56 "_law_asked_state" (spAskS K) := by
  refine ca_of (N := ["_law_vault", "_law_cells", "_law_deeds", "_law_state_here", "_law_other", "_law_k", "_law_now", "_law_made", "_law_cell", "_law_first"]) (ps := ["_law_vault", "_law_cells", "_law_deeds", "_law_state_here"]) T.f_l_asked_state T.g_law_asked_state ⟨rfl, rfl, rfl, by decide +kernel, rfl, by decide +kernel, by decide +kernel⟩ (fun _ _ _ _ _ _ us hl => match us, hl with | [_, _, _, _], _ => rfl)
    (fun vs H Q E h => by obtain ⟨p, cl, dl, y, v, o, cxs, dxs, rfl, hv, gv, hcl, hcx, hdl, hdx, ho, q⟩ := h; rfl) (fun cdv A outer s H vs Q E hr h => ?_)
  have nd : (["_law_vault", "_law_cells", "_law_deeds", "_law_state_here", "_law_other", "_law_k", "_law_now", "_law_made", "_law_cell", "_law_first"] : List Str).Nodup := by decide +kernel
  obtain ⟨p, cl, dl, y, v, o, cxs, dxs, rfl, hv, gv, hcl, hcx, hdl, hdx, ho, q⟩ := h
  refine ⟨_, (pss_cons (ps_set (i := 4) nd rfl (.inl rfl) pe_non)
      (pss_cons (ps_tryH (hands_one ⟨rfl, by decide, .inl T.g_NoState⟩ rfl (fun _ _ _ _ _ hz hf => by exact (pss_one (ps_set (i := 4) nd rfl (.inl rfl) pe_non))) (hands_nil (Wout := fun _ _ _ _ => False) rfl rfl takes0)) rfl rfl (fun W pn xe tk _ => by exact (pss_one (ps_set (i := 4) nd rfl (.inl rfl) (pe_caX (cx_begun T) hr tk (pa_cons (pv 0) (pa_cons (pv 3) pa_nil)))))) pss_nil)
      (pss_cons (ps_if (pt_not (pt_val (pe_ca (ca_l_good_state T) hr (pa_cons (pv 3) (pa_cons (pv 1) pa_nil))))) (pss_one (ps_ret (pe_cmp (pc_isN (pv 4)) rfl))) pss_nil)
      (pss_cons (ps_if (pt_not (pt_val (pe_callB (call_isO (own_ok T.e_own_Vault) T.c_Vault) (by rfl) T.b_isinstance boot_isinstance (pa_cons (pv 4) (pa_cons (pe_gr T.g_Vault) pa_nil))))) (pss_one (ps_ret pe_bl)) pss_nil)
      (pss_cons (ps_setLc (i := 6) (own := [("_law_k", 5)]) (tt := tYes) rfl nd rfl rfl (by rfl) (pi_range1 rfl T.b_range (pa_cons (pe_callB call_len_seq (by rfl) T.b_len PySem.boot_len (pa_cons (pv 1) pa_nil)) pa_nil)) (blkOk_by (N := ["_law_vault", "_law_cells", "_law_deeds", "_law_state_here", "_law_other", "_law_k", "_law_now", "_law_made", "_law_cell", "_law_first"]) (sc := defScope s_l_asked_state) (by decide +kernel)) (fun _ _ _ _ _ => pg_name (i := 5) nd rfl (.inl rfl)) (fun _ _ _ _ _ => pts_nil) (fun _ _ _ _ _ => pe_tup (pa_cons (pe_ix (ix_tupK K rfl) (pe_ix (ix_listK K rfl) (pv 1) (pv 5) (fun _ _ => rfl)) pe_int (fun _ _ => rfl)) (pa_cons (pe_ix (ix_tupK K rfl) (pv 3) (pv 5) (fun _ _ => rfl)) pa_nil))))
      (pss_cons (ps_if (PW.pt (pw_or (pt_not (pt_val (pe_ca (ca_l_same 50 T) hr (pa_cons (pe_tup (pa_cons (pe_tupleOf (by rfl) T.b_tuple (pv 6)) (pa_cons (pe_tupleOf (by rfl) T.b_tuple (pv 2)) pa_nil))) (pa_cons (pe_me0 (me_Vault_shape T) hr (pv 4)) pa_nil))))) (pw_or1 (pt_not (pt_val (pe_ca (ca_l_same 50 T) hr (pa_cons (pv 3) (pa_cons (pe_me0 (me_Vault_first T) hr (pv 4)) pa_nil)))))))) (pss_one (ps_ret pe_bl)) pss_nil)
      (pss_cons (ps_set (i := 7) nd rfl (.inl rfl) (pe_ma (M.ma_Vault T) hr (pa_cons (pv 6) (pa_cons (pe_callTy call_list_of (by rfl) T.b_list boot_list (pa_cons (pv 2) pa_nil)) pa_nil))))
      (pss_cons (ps_set (i := 9) nd rfl (.inl rfl) (pe_tupleOf (by rfl) T.b_tuple (pe_lc (own := [("_law_cell", 8)]) (tt := tYes) rfl nd (pi_list (pv 1)) (blkOk_by (N := ["_law_vault", "_law_cells", "_law_deeds", "_law_state_here", "_law_other", "_law_k", "_law_now", "_law_made", "_law_cell", "_law_first"]) (sc := defScope s_l_asked_state) (by decide +kernel)) (fun _ _ _ _ _ => pg_name (i := 8) nd rfl (.inl rfl)) (fun _ _ _ _ _ => pts_nil) (fun _ _ _ _ _ => pe_ix (ix_tupK K rfl) (pv 8) pe_int (fun _ _ => rfl)))))
      (pss_one (ps_ret (pe_and (pe_cmpR (op_eqI (eq_Vault T) (hr.mono (by decide))) (pv 4) (pv 7) (nomark _)) (pe_one (pe_ca (ca_l_same 50 T) hr (pa_cons (pe_cmpR (op_eqD hr.units) (pv 3) (pv 9) (nomark _)) (pa_cons (pe_cmpR (op_eqI (eq_Vault T) (hr.mono (by decide))) (pv 4) (pv 0) (nomark _)) pa_nil))))))))))))))), ?_⟩
  have lcx : cxs.length = v.cells.length := by rw [dps_len hcx, List.length_map]
  have c6 := gv.c1
  refine ⟨_, rfl, _, rfl, p, y, v, o, rfl, hv, gv, ho, fun e H1 s1 => ⟨true, T.xm_NoState, fun _ a na => ?_, fun z => nomatch z⟩, fun hs eo so x H1 s1 nx vt => ?_⟩
  · refine ⟨_, rfl, _, rfl, y, o, cl, cxs, v.cells, rfl, ho.same s1, s1.seq hcl, dps_same s1 hcx, c6, ?_⟩
    rw [e]
    exact ⟨_, rfl, iteT ⟨_, rfl, q _ s1⟩⟩
  subst eo
  cases ho with | dat hy => ?_
  obtain ⟨b, ys, rfl, hb, hys⟩ := dp_tup hy
  cases dps_ints hys
  have so1 := so.1
  rw [List.length_map] at so1
  refine ⟨_, rfl, _, rfl, .ref b, some (.tuple (hs.map PyData.int)), cl, cxs, v.cells, rfl, .dat (dp_same s1 hy), s1.seq hcl, dps_same s1 hcx, c6, ?_⟩
  rw [show stB (v.cells.map (·.1)) (some (.tuple (hs.map PyData.int))) = true from okS_of so]
  obtain ⟨dx0, fs0, eI⟩ := vat_ins vt
  refine ⟨_, rfl, iteF ⟨_, rfl, _, rfl, .inl ⟨x, dx0, fs0, rfl, eI, _, rfl, iteF ?_⟩⟩⟩
  have hcl1 := s1.seq hcl
  have hcx1 := dps_same s1 hcx
  have hb1 := same_t s1 hb
  have gu := begun_good gv so
  have lz : (begunC v hs).length = v.cells.length := by
    unfold begunC
    rw [List.length_zip, List.length_map]
    omega
  -- the cells now
  refine ⟨_, rfl, _, _, rfl, .inl hcl1, _, rfl, by omega, by omega, fun D nD => ?_⟩
  refine lc_out (n := cxs.length) walk_range nD (by omega) (fun i y H => ∃ c, (begunC v hs)[i]? = some c ∧ Dp K H y (cellD c)) (fun i y H H' hc s ⟨c, e, h⟩ => ⟨c, e, dp_but hc s h (cell_noL c)⟩) (fun H' s => trivial) (fun i z H' H2 N F hi s yv k => ?_) (fun H2 zs s2 hD el hz => ?_)
  · obtain ⟨rfl, rfl⟩ := yv
    have ei : (0 : Int) + (i : Nat) = ((i : Nat) : Int) := by omega
    obtain ⟨dd, ed, hdd⟩ := dps_get (dps_same s hcx1) (List.getElem?_eq_getElem (show i < cxs.length by omega))
    have hxi := List.getElem?_eq_getElem (show i < cxs.length by omega)
    generalize cxs[i]'(by omega) = xi at hxi hdd
    obtain ⟨cc, ec, rfl⟩ := get_mapA ed
    obtain ⟨t, x1, x2, rfl, ht, e1, e2⟩ := dp2 hdd
    cases dp_int e1
    have hyi := List.getElem?_eq_getElem (show i < hs.length by omega)
    generalize hs[i]'(by omega) = h at hyi
    have hyv : (hs.map V.int)[i]? = some (.int h) := by rw [List.getElem?_map, hyi]; rfl
    refine ⟨rfl, iteT ⟨_, rfl, _, rfl, _, _, _, _, rfl, rfl, s.seq hcl1, by rw [ei]; exact atI_nat hxi, _, _, _, _, rfl, rfl, ht, at0, _, rfl, _, rfl, _, _, _, _, rfl, rfl, same_t s hb1, by rw [ei]; exact atI_nat hyv, (by show 2 ≤ sizeLine; decide), fun u nu => ?_⟩⟩
    refine k _ _ (same_new nu) ⟨(cc.1, h), ?_, .tup (.of upd_same) (.cons (.int _) (.cons (.int _) .nil))⟩
    unfold begunC
    rw [List.getElem?_zip_eq_some]
    exact ⟨by rw [List.getElem?_map, ec]; rfl, hyi⟩
  have hnow : DpAll K H2 zs ((begunC v hs).map cellD) := dps_of (by rw [List.length_map]; omega) fun i y d hy hd => by
    obtain ⟨c, e1, e2⟩ := hz i y hy
    rw [List.getElem?_map, e1] at hd
    cases hd
    exact e2
  clear hz
  have hcl2 := s2.seq hcl1
  have hdl2 := s2.seq (s1.seq hdl)
  have hdx2 := dps_same s2 (dps_same s1 hdx)
  -- the shape
  refine ⟨_, rfl, .inl ⟨D, zs, rfl, .of hD, fun t1 n1 => ⟨_, rfl, .inl ⟨dl, dxs, rfl, (same_new n1).seq hdl2, fun t2 n2 => ⟨(by show 2 ≤ sizeLine; decide), fun t3 n3 => ?_⟩⟩⟩⟩⟩
  have a1 := same_new (o := .tup zs) n1
  have g1 : upd H2 t1 (.tup zs) t1 = some (.tup zs) := upd_same
  generalize upd H2 t1 (.tup zs) = G1 at a1 g1 n2 n3 ⊢
  have a2 := same_new (o := .tup dxs) n2
  have g2 : upd G1 t2 (.tup dxs) t2 = some (.tup dxs) := upd_same
  generalize upd G1 t2 (.tup dxs) = G2 at a2 g2 n3 ⊢
  have a3 := same_new (o := .tup [.ref t1, .ref t2]) n3
  have g3 : upd G2 t3 (.tup [.ref t1, .ref t2]) t3 = some (.tup [.ref t1, .ref t2]) := upd_same
  generalize upd G2 t3 (.tup [.ref t1, .ref t2]) = G3 at a3 g3 ⊢
  have a23 := (a1.trans a2).trans a3
  have a13 := s2.trans a23
  have dc3 : Dp K G3 (.ref t1) (.tuple ((begunC v hs).map cellD)) := .tup (.of ((a2.trans a3) _ _ g1)) (dps_same a23 hnow)
  have dd3 : Dp K G3 (.ref t2) (.tuple (v.deeds.map deedD)) := .tup (.of (a3 _ _ g2)) (dps_same a23 hdx2)
  obtain ⟨dx1, fs1, k1, k2⟩ := vat_me (vt.same a13) "shape"
  refine ⟨_, rfl, x, dx1, fs1, rfl, k1, k2, x, _, rfl, vt.same a13, fun t xx dd G4 a4 ht hxx hdd => ?_⟩
  have fsh : fit 49 (.tuple [.tuple ((begunC v hs).map cellD), .tuple (v.deeds.map deedD)]) := fit_tup (n := 48) (by show 2 ≤ 100000; decide) fun d h => by
    simp only [List.mem_cons, List.not_mem_nil, or_false] at h
    rcases h with rfl | rfl
    · exact fit_up (cells_fit gu) (by decide)
    · exact fit_up (deeds_fit gv) (by decide)
  refine ⟨_, _, .tuple [.tuple ((begunC v hs).map cellD), .tuple (v.deeds.map deedD)], rfl, .tup (.of (a4 _ _ g3)) (.cons (dp_same a4 dc3) (.cons (dp_same a4 dd3) .nil)), .tup (.of ht) (.cons hxx (.cons hdd .nil)), Nat.lt_succ_of_le (fit_dpt fsh).1, (fit_dpt fsh).2, fun G5 a5 => ?_⟩
  refine ⟨_, rfl, iteF ?_⟩
  have a15 := (a13.trans a4).trans a5
  obtain ⟨dx2, fs2, k3, k4⟩ := vat_me (vt.same a15) "first"
  refine ⟨_, rfl, _, rfl, x, dx2, fs2, rfl, k3, k4, x, _, rfl, vt.same a15, by rw [lz]; exact c6, fun fa G6 a6 hfa => ?_⟩
  have e2 : (begunC v hs).map (·.2) = hs := by
    unfold begunC
    exact List.map_snd_zip (by rw [List.length_map]; omega)
  rw [e2] at hfa
  have a16 := a15.trans a6
  have fhs : fit 49 (.tuple (hs.map PyData.int)) := fit_up (ints_fit (n := 0) hs (by omega)) (by decide)
  refine ⟨_, _, .tuple (hs.map PyData.int), rfl, .tup (same_t a16 hb1) ints_dps, .tup (.of hfa) ints_dps, Nat.lt_succ_of_le (fit_dpt fhs).1, (fit_dpt fhs).2, fun G7 a7 => ?_⟩
  refine ⟨_, rfl, iteF ?_⟩
  have a17 := a16.trans a7
  have a27 := (((a23.trans a4).trans a5).trans a6).trans a7
  -- the vault that is made so
  refine ⟨_, rfl, _, rfl, dl, _, rfl, .inl (a27.seq hdl2), fun l2 m2 => ?_⟩
  have w2 : Same G7 (upd G7 l2 (.lst dxs)) := same_new m2
  have x2 : upd G7 l2 (.lst dxs) l2 = some (.lst dxs) := upd_same
  generalize upd G7 l2 (.lst dxs) = G8 at w2 x2 ⊢
  have a28 := a27.trans w2
  have a18 := a17.trans w2
  intro mp mx nmp nmx ne
  have w3 : Same G8 (upd (upd G8 mx (.own mp)) mp (.ins (He.ga K "Vault") mx [])) := (same_new nmx).trans (same_new (by rw [upd_ne (Ne.symm ne)]; exact nmp))
  refine ⟨mp, mx, D, l2, zs, dxs, ⟨begunC v hs, v.deeds⟩, rfl, upd_same, .of ((a28.trans w3) _ _ hD), dps_same (a28.trans w3) hnow, .of (w3 _ _ x2), dps_same (a28.trans w3) hdx2, gu, fun G9 b9 vt9 => ⟨rfl, ?_⟩⟩
  have w89 : Same G8 G9 := fun b o e => b9 _ _ (ne_of_none e nmp) (w3 _ _ e)
  have a19 := a18.trans w89
  have a09 := s1.trans a19
  -- its first state
  have hcl9 := a19.seq hcl1
  have hcx9 := dps_same a19 hcx1
  refine ⟨_, rfl, cl, rfl, ⟨_, hcl9⟩, fun F nF => ?_⟩
  refine lc_out (n := cxs.length) walk_list nF (by omega) (fun i y H => ∃ c, v.cells[i]? = some c ∧ y = .int c.2) (fun _ _ _ _ _ _ h => h) (fun H' s => s.seq hcl9) (fun i x H' H2 N F hi s y k => ?_) (fun F1 ws f1 hF el2 hz => ?_)
  · obtain ⟨rfl, ex⟩ := y
    obtain ⟨dd, ed, hdd⟩ := dps_get hcx9 ex
    obtain ⟨cc, ec, rfl⟩ := get_mapA ed
    obtain ⟨t, x1, x2, rfl, ht, e1, e2⟩ := dp2 (dp_same s hdd)
    cases dp_int e2
    exact ⟨rfl, iteT ⟨_, rfl, _, _, _, _, rfl, rfl, ht, at1, k _ _ (Same.refl _) ⟨cc, ec, rfl⟩⟩⟩
  have em : ws = (v.cells.map (·.2)).map V.int := by
    rw [List.map_map]
    exact map_of (by omega) fun i y e => by
      obtain ⟨c, h1, h2⟩ := hz i y e
      exact ⟨c, h1, h2⟩
  subst em
  clear hz el2
  refine .inl ⟨F, _, rfl, .of hF, fun st nst => ?_⟩
  have f2 := same_new (o := .tup ((v.cells.map (·.2)).map V.int)) nst
  have hst : upd F1 st (.tup ((v.cells.map (·.2)).map V.int)) st = some (.tup ((v.cells.map (·.2)).map V.int)) := upd_same
  generalize upd F1 st (.tup ((v.cells.map (·.2)).map V.int)) = F2 at f2 hst ⊢
  have f9 := f1.trans f2
  have f19 := a19.trans f9
  obtain ⟨dy1, gs1, m1⟩ := vat_ins (vt.same f19)
  obtain ⟨dy2, gs2, m3⟩ := vat_ins (vt9.same f9)
  obtain ⟨dy3, gs3, m5⟩ := vat_ins (hv.same (s1.trans f19))
  refine ⟨_, rfl, _, rfl, _, _, _, _, _, _, rfl, rfl, m1, m3, x, _, _, rfl, vt.same f19, gu, .inr ⟨mp, _, rfl, vt9.same f9, gu, ⟨_, rfl⟩, ?_⟩⟩
  rw [veq_self gu]
  have fhs1 : fit 1 (.tuple (hs.map PyData.int)) := ints_fit (n := 0) hs (by omega)
  have fgs1 : fit 1 (.tuple ((v.cells.map (·.2)).map PyData.int)) := ints_fit (n := 0) _ (by rw [List.length_map]; omega)
  refine ⟨_, rfl, iteT ⟨_, rfl, _, rfl, _, _, .tup (same_t f19 hb1) ints_dps, .tup (.of hst) ints_dps, fit_shaped (by decide) fhs1, fit_shaped (by decide) fgs1, ?_⟩⟩
  refine ⟨_, rfl, _, rfl, _, _, _, _, _, _, rfl, rfl, m1, m5, x, _, _, rfl, vt.same f19, gu, .inr ⟨p, _, rfl, hv.same (s1.trans f19), gv, ⟨_, rfl⟩, ?_⟩⟩
  rw [veq_begun gv so]
  exact ⟨_, _, .bool _, rfl, .bl _, .bl _, Nat.zero_lt_succ _, trivial, fun H9 h9 => q H9 ((s1.trans f19).trans h9)⟩
end
end J

end M

set_option Elab.async false
set_option linter.all false
set_option maxRecDepth 100000
set_option maxHeartbeats 2000000
namespace M
open PySem PySem.Spec PyProof.Rows L2

namespace J
section
variable {P : Program} {w : World} {K : PySem.W.Frag} {mg : Str → Option Value} {base : Heap}
def spCallsN (K : PySem.W.Frag) : Sp := fun vs H Q _ => ∃ (p : Addr) (v : Vlt), vs = [.ref p] ∧ VaultAt K H p v ∧ VOk v ∧ ∀ a ys H', Same H H' → H a = none → H' a = some (.lst ys) → TupsAt H' ys v.calls → Q (.ref a) H'
theorem me_Vault_calls (T : Txt w K mg) : Me P w K mg base 1 (He.ga K "Vault") "calls" (spCallsN K) := by
  refine me_of (N := ["self", "name", "choices", "_", "argument"]) (ps := ["self"]) T.f_Vault_calls T.c_Vault T.m_Vault_calls ⟨rfl, rfl, rfl, by decide +kernel, rfl, by decide +kernel, by decide +kernel⟩ (fun _ _ _ _ _ _ us hl => match us, hl with | [_], _ => rfl)
    (fun vs H Q E h => by obtain ⟨p, v, rfl, hv, ok, q⟩ := h; rfl) (fun cdv A outer s H vs Q E hr h => ?_)
  have nd : (["self", "name", "choices", "_", "argument"] : List Str).Nodup := by decide +kernel
  obtain ⟨p, v, rfl, hv, ok, q⟩ := h
  obtain ⟨dx, a, d, c, b, kvs, h1, h2, h3, h4, h5⟩ := hv.ob
  obtain ⟨d, xs, ea, hx, hxs⟩ := dp_tup h3
  cases ea
  refine ⟨_, pss_one (ps_ret (pe_lc2 (own := [("name", 1), ("choices", 2), ("_", 3), ("argument", 4)]) (vs1 := [4]) (tt := tYes) (tt1 := tYes) rfl nd (pi_tup (pe_fld (pv 0) rfl)) (blkOk_by (N := ["self", "name", "choices", "_", "argument"]) (sc := defScope s_Vault_calls) (by decide +kernel)) (by decide)
    (fun _ _ _ _ _ => pg_three K 1 2 3 rfl rfl nd rfl rfl rfl (.inl rfl) (.inl rfl) (.inl rfl) (.inr rfl) (.inr rfl) (.inr rfl)) (fun _ _ _ _ _ => pts_nil) (fun _ _ _ _ _ => pi_range1 rfl T.b_range (pa_cons (pv 2) pa_nil)) (fun _ _ _ _ _ => pg_name (i := 4) nd rfl (.inl rfl)) (fun _ _ _ _ _ => pts_nil)
    (fun _ _ _ _ _ => pe_tup (pa_cons (pv 1) (pa_cons (pv 4) pa_nil))))), ?_⟩
  have el : xs.length = v.deeds.length := by rw [dps_len hxs, List.length_map]
  refine ⟨_, rfl, p, _, _, _, _, rfl, h1, T.c_Vault, T.n_Vault_deeds, vf_deeds .., d, rfl, ⟨_, hx⟩, fun D hD => ?_⟩
  let F : List (Str × Int × List Row) → List (Str × Int) := fun l => l.flatMap fun d => (List.range d.2.1.toNat).map fun (j : Nat) => (d.1, (j : Int))
  have FS : ∀ l d, F (l ++ [d]) = F l ++ (List.range d.2.1.toNat).map fun (j : Nat) => (d.1, (j : Int)) := fun l d => by simp [F]
  have bnd : ∀ l, (∀ d ∈ l, d.2.1 ≤ 9) → (F l).length ≤ 9 * l.length := by
    intro l
    induction l with
    | nil => intro _; simp [F]
    | cons d r ih =>
      intro h
      have e : F (d :: r) = ((List.range d.2.1.toNat).map fun (j : Nat) => (d.1, (j : Int))) ++ F r := by simp [F]
      have h1 := h d List.mem_cons_self
      have h2 := ih fun d hd => h d (List.mem_cons_of_mem _ hd)
      rw [e, List.length_append, List.length_map, List.length_range, List.length_cons]
      omega
  refine it_any (n := xs.length) walk_tup (fun i H' => ∃ ys, Same H H' ∧ H' D = some (.lst ys) ∧ TupsAt H' ys (F (v.deeds.take i))) ⟨[], same_new hD, upd_same, trivial⟩ (fun i H' _ ⟨_, s, _⟩ => same_t s hx) ?_ ?_
  · rintro i x H' H2 hi ⟨ys, s, eD, hy⟩ ⟨rfl, ex⟩
    obtain ⟨dd, ed, hdd⟩ := dps_get hxs ex
    obtain ⟨cc, ec, rfl⟩ := get_mapA ed
    obtain ⟨t, x1, x2, x3, rfl, ht, e1, e2, e3⟩ := dp3 (dp_same s hdd)
    cases dp_str e1
    cases dp_int e2
    have hc := ok.ch cc (List.mem_of_getElem? ec)
    refine ⟨t, _, rfl, ht, rfl, _, _, rfl, _, _, rfl, _, _, rfl, rfl, rfl, ?_⟩
    refine ⟨_, rfl, cc.2.1, rfl, by omega, by omega, ?_⟩
    refine it_any (n := cc.2.1.toNat) walk_range (fun j H' => ∃ ys, Same H H' ∧ H' D = some (.lst ys) ∧ TupsAt H' ys (F (v.deeds.take i) ++ (List.range j).map fun (j : Nat) => (cc.1, (j : Int)))) ⟨ys, s, eD, by simpa using hy⟩ (fun _ _ _ _ => trivial) ?_ ?_
    · rintro j x H3 H4 hj ⟨zs, s3, eD3, hz⟩ ⟨rfl, rfl⟩
      refine ⟨rfl, _, rfl, _, rfl, (by show 2 ≤ sizeLine; decide), fun t ht => ?_⟩
      have ntD : D ≠ t := ne_of_none eD3 ht
      have hlz := tups_len hz
      have hb := bnd (v.deeds.take i) fun d hd => (ok.ch d (List.mem_of_mem_take hd)).2
      have hl8 : (v.deeds.take i).length ≤ 8 := by rw [List.length_take]; have := ok.d1; omega
      rw [List.length_append, List.length_map, List.length_range] at hlz
      refine ⟨zs, by rw [upd_ne ntD]; exact eD3, by rw [sizeLine_eq]; omega, zs ++ [.ref t], fun b o e => ?_, upd_same, ?_⟩
      · rw [upd_ne (ne_of_none e hD), upd_ne (ne_of_none (s3 b o e) ht)]
        exact s3 b o e
      · rw [range_more, List.map_append, ← List.append_assoc]
        refine tups_snoc ?_ (tups_but (D := D) (H := upd H4 t (.tup [.str cc.1, .int (0 + (j : Int))])) (.lst (l := zs) (by rw [upd_ne ntD]; exact eD3)) But.upd (tups_same (same_new ht) hz))
        rw [upd_ne (Ne.symm ntD), upd_same]
        simp
    · rintro H3 ⟨zs, s3, eD3, hz⟩
      refine ⟨zs, s3, eD3, ?_⟩
      rw [take_more ec, FS]
      exact hz
  · rintro H' ⟨ys, s, eD, hy⟩
    refine q D ys H' s hD eD ?_
    rw [el, List.take_length] at hy
    exact hy
end
end J

end M

set_option Elab.async false
set_option linter.all false
set_option maxRecDepth 100000
set_option maxHeartbeats 2000000
namespace M
open PySem PySem.Spec PyProof.Rows L2

theorem strs_dps {K : PySem.W.Frag} {H : Hp} : ∀ l : List (Str × Int × List Row), DpAll K H (l.map fun d => V.str d.1) (l.map fun d => PyData.str d.1)
  | [] => .nil
  | d :: l => .cons (.str _) (strs_dps l)
theorem nestD_dp {k : Nat} {d : PyData} (h : fit k d) : fit (k + 1) (.tuple [d]) := fit_tup (by show 1 ≤ 100000; decide) (fun x h' => by rw [List.mem_singleton.mp h']; exact h)
theorem calls_one {ds : List (Str × Int × List Row)} (l : 1 ≤ ds.length) (h : ∀ d ∈ ds, 1 ≤ d.2.1 ∧ d.2.1 ≤ 9) : 1 ≤ (callsOf ds).length := by
  cases ds with
  | nil => exact absurd l (Nat.not_succ_le_zero 0)
  | cons d r =>
    have e : callsOf (d :: r) = ((List.range d.2.1.toNat).map fun (j : Nat) => (d.1, (j : Int))) ++ callsOf r := by simp [callsOf]
    have h1 := h d List.mem_cons_self
    rw [e, List.length_append, List.length_map, List.length_range]
    omega
theorem callsOf_mem {ds : List (Str × Int × List Row)} {c : Str × Int} (h : c ∈ callsOf ds) : ∃ d ∈ ds, c.1 = d.1 := by
  unfold callsOf at h
  obtain ⟨d, hd, h⟩ := List.mem_flatMap.mp h
  obtain ⟨j, _, rfl⟩ := List.mem_map.mp h
  exact ⟨d, hd, rfl⟩
theorem same_poolJ {H H1 H2 : Hp} {p : Addr} (s : Same H H1) (n : H p = none) (b : But p H1 H2) : Same H H2 := fun c o e => b c o (ne_of_none e n) (s c o e)
section
variable {P : Program} {w : World} {K : PySem.W.Frag} {mg : Str → Option Value} {base : Heap}
def spLaw (K : PySem.W.Frag) : Sp := fun vs H Q _ => ∃ (a : Addr) (ns : List Int), vs = [.ref a] ∧ SqL K H a (ns.map V.int) ∧ ns.length ≤ 63 ∧ ∀ H', Q (.bl true) H'
set_option maxHeartbeats 0 in
theorem ok_law {fd : FuncData} (T : Txt w K mg) (F : FunD K "law" "law" (defArgs s_law) (defBody s_law) (defScope s_law) [] [] (He.fAd K ("law", none)) fd) : FnOk P w K mg base CX0 57 (He.fAd K ("law", none)) fd ["_law_script"] (spLaw K) := by
  refine fn_d (N := ["_law_script", "_law_pool_here", "_law_cells", "_law_deeds", "_law_vault", "_law_deed", "_law_names", "_law_calls_here", "_law_k", "_law_turn", "_law_told", "_law_asked", "_law_deep", "_law_thing"]) (ps := ["_law_script"]) F ⟨rfl, rfl, rfl, by decide +kernel, rfl, by decide +kernel, by decide +kernel⟩
    (fun vs H Q E h => by obtain ⟨a, ns, rfl, ha, hl, q⟩ := h; rfl) (fun cdv A outer s H vs Q E hr h => ?_)
  have nd : (["_law_script", "_law_pool_here", "_law_cells", "_law_deeds", "_law_vault", "_law_deed", "_law_names", "_law_calls_here", "_law_k", "_law_turn", "_law_told", "_law_asked", "_law_deep", "_law_thing"] : List Str).Nodup := by decide +kernel
  obtain ⟨a, ns, rfl, ha, hl, q⟩ := h
  refine ⟨_, (pss_cons (ps_set (i := 1) nd rfl (.inl rfl) (pe_ca (ca_l_pool T) hr (pa_cons (pv 0) (pa_cons pe_int pa_nil))))
      (pss_cons (ps_set (i := 2) nd rfl (.inl rfl) (pe_ca (J.ca_l_wide_cells T) hr (pa_cons (pv 1) pa_nil)))
      (pss_cons (ps_set (i := 3) nd rfl (.inl rfl) (pe_ca (J.ca_l_wide_deeds T) hr (pa_cons (pv 1) (pa_cons (pe_callB call_len_seq (by rfl) T.b_len PySem.boot_len (pa_cons (pv 2) pa_nil)) (pa_cons pe_int pa_nil)))))
      (pss_cons (ps_set (i := 4) nd rfl (.inl rfl) (pe_ma (M.ma_Vault T) hr (pa_cons (pe_callTy call_list_of (by rfl) T.b_list boot_list (pa_cons (pv 2) pa_nil)) (pa_cons (pe_callTy call_list_of (by rfl) T.b_list boot_list (pa_cons (pv 3) pa_nil)) pa_nil))))
      (pss_cons (ps_setLc (i := 6) (own := [("_law_deed", 5)]) (tt := tYes) rfl nd rfl rfl (by rfl) (pi_list (pv 3)) (blkOk_by (N := ["_law_script", "_law_pool_here", "_law_cells", "_law_deeds", "_law_vault", "_law_deed", "_law_names", "_law_calls_here", "_law_k", "_law_turn", "_law_told", "_law_asked", "_law_deep", "_law_thing"]) (sc := defScope s_law) (by decide +kernel)) (fun _ _ _ _ _ => pg_name (i := 5) nd rfl (.inl rfl)) (fun _ _ _ _ _ => pts_nil) (fun _ _ _ _ _ => pe_ix (ix_tupK K rfl) (pv 5) pe_int (fun _ _ => rfl)))
      (pss_cons (ps_set (i := 7) nd rfl (.inl rfl) (pe_ca (J.ca_l_calls T) hr (pa_cons (pv 3) pa_nil)))
      (pss_cons (ps_for PassesOwn.never rfl (pi_range2 rfl T.b_range (pa_cons pe_int (pa_cons (pe_callB (call_max2 rfl) (by rfl) T.b_max boot_max (pa_cons pe_int (pa_cons (pe_callB (call_min2 rfl) (by rfl) T.b_min boot_min (pa_cons (pe_callB call_len_seq (by rfl) T.b_len PySem.boot_len (pa_cons (pv 0) pa_nil)) (pa_cons pe_int pa_nil))) pa_nil))) pa_nil))) (pg_name (i := 8) nd rfl (.inl rfl)) (pss_cons (ps_set (i := 9) nd rfl (.inl rfl) (pe_ca (ca_l_pool T) hr (pa_cons (pv 0) (pa_cons (pv 8) pa_nil))))
      (pss_cons (ps_if (pt_not (pt_val (pe_ca (J.ca_l_asked_name T) hr (pa_cons (pv 4) (pa_cons (pv 3) (pa_cons (pe_ca (J.ca_l_name T) hr (pa_cons (pv 9) (pa_cons (pv 3) pa_nil))) pa_nil)))))) (pss_one (ps_ret pe_bl)) pss_nil)
      (pss_cons (ps_if (pt_not (pt_val (pe_ca (J.ca_l_asked_state T) hr (pa_cons (pv 4) (pa_cons (pv 2) (pa_cons (pv 3) (pa_cons (pe_ca (J.ca_l_state T) hr (pa_cons (pv 9) (pa_cons (pv 2) pa_nil))) pa_nil))))))) (pss_one (ps_ret pe_bl)) pss_nil)
      (pss_cons (ps_set (i := 10) nd rfl (.inl rfl) (pe_me0 (J.me_Vault_names T) hr (pv 4)))
      (pss_cons (ps_set (i := 11) nd rfl (.inl rfl) (pe_me0 (J.me_Vault_calls T) hr (pv 4)))
      (pss_cons (ps_if (PW.pt (pw_or (pt_not (pt_val (pe_ca (ca_l_same 50 T) hr (pa_cons (pv 6) (pa_cons (pv 10) pa_nil))))) (pw_or1 (pt_not (pt_val (pe_ca (ca_l_same 50 T) hr (pa_cons (pv 7) (pa_cons (pv 11) pa_nil)))))))) (pss_one (ps_ret pe_bl)) pss_nil)
      (pss_cons (ps_expr (pe_bm0 PySem.F.plainAttrs_list PySem.F.slot_list_reverse PySem.F.type_list_reverse mt_reverse (pv 10)))
      (pss_cons (ps_expr (pe_bm PySem.F.plainAttrs_list PySem.F.slot_list_append PySem.F.type_list_append mt_append (pv 10) (pa_cons pe_str pa_nil)))
      (pss_cons (ps_expr (pe_bm0 PySem.F.plainAttrs_list PySem.F.slot_list_pop PySem.F.type_list_pop mt_pop (pv 11)))
      (pss_one (ps_expr (pe_bm PySem.F.plainAttrs_list PySem.F.slot_list_append PySem.F.type_list_append mt_append (pv 11) (pa_cons (pe_tup (pa_cons (pe_ix ix_list (pv 6) pe_int (fun _ _ => rfl)) (pa_cons pe_int pa_nil))) pa_nil))))))))))))))
      (pss_cons (ps_set (i := 12) nd rfl (.inl rfl) (pe_tup (pa_cons pe_int pa_nil)))
      (pss_cons (ps_for PassesOwn.never rfl (pi_range1 rfl T.b_range (pa_cons pe_int pa_nil)) (pg_name (i := 9) nd rfl (.inl rfl)) (pss_one (ps_set (i := 12) nd rfl (.inl rfl) (pe_tup (pa_cons (pv 12) pa_nil)))))
      (pss_cons (ps_for PassesOwn.never rfl (pi_list (pe_lst (pa_cons (pv 4) (pa_cons (pv 12) (pa_cons (pe_lst (pa_cons (pv 4) pa_nil)) pa_nil))))) (pg_name (i := 13) nd rfl (.inl rfl)) (pss_one (ps_if (PW.pt (pw_or (pt_not (pt_val (pe_ca (J.ca_l_asked_name T) hr (pa_cons (pv 4) (pa_cons (pv 3) (pa_cons (pv 13) pa_nil)))))) (pw_or1 (pt_not (pt_val (pe_ca (J.ca_l_asked_state T) hr (pa_cons (pv 4) (pa_cons (pv 2) (pa_cons (pv 3) (pa_cons (pv 13) pa_nil)))))))))) (pss_one (ps_ret pe_bl)) pss_nil)))
      (pss_one (ps_ret (pe_ca (ca_l_same 50 T) hr (pa_cons (pe_tup (pa_cons (pe_tupleOf (by rfl) T.b_tuple (pv 2)) (pa_cons (pe_tupleOf (by rfl) T.b_tuple (pv 3)) pa_nil))) (pa_cons (pe_me0 (me_Vault_shape T) hr (pv 4)) pa_nil))))))))))))))), ?_⟩
  refine ⟨_, rfl, a, ns, 0, rfl, ha, hl, by omega, fun p H1 s1 np pp => ?_⟩
  refine ⟨_, rfl, p, rfl, pp, fun cl cxs cs H3 b3 p3 ncl nclp hcl hcx hcn hcs => ?_⟩
  have lcx : cxs.length = cs.length := by rw [dps_len hcx, List.length_map]
  refine ⟨_, rfl, _, rfl, _, _, rfl, .inl (.of hcl), p, (cxs.length : Nat), 4, rfl, p3, by omega, by decide, fun dl dxs ds H4 b4 p4 ndl ndlp hdl hdx hdn hds nds => ?_⟩
  have ldx : dxs.length = ds.length := by rw [dps_len hdx, List.length_map]
  have s4 : Same H H4 := fun b o e => b4 _ _ (ne_of_none e np) (b3 _ _ (ne_of_none e np) (s1 _ _ e))
  have hcl4 := b4 _ _ nclp hcl
  have hcx4 := dps_but p3.ch b4 hcx (cells_noL cs)
  have hgood : VGood ⟨cs, ds⟩ := ⟨hcn.1, by show cs.length ≤ 6; omega, hcs, hdn.1, by show ds.length ≤ 8; omega, fun d hd => by
    have := hds d hd
    rw [lcx] at this
    exact this, nds⟩
  have hch : ∀ d ∈ ds, 1 ≤ d.2.1 ∧ d.2.1 ≤ 9 := fun d hd => (hds d hd).2.1
  refine ⟨_, rfl, cl, _, rfl, .inl (.of hcl4), fun l1 nl1 => ?_⟩
  have w1 : Same H4 (upd H4 l1 (.lst cxs)) := same_new nl1
  have x1 : upd H4 l1 (.lst cxs) l1 = some (.lst cxs) := upd_same
  generalize upd H4 l1 (.lst cxs) = G1 at w1 x1 ⊢
  refine ⟨_, rfl, dl, _, rfl, .inl (.of (w1 _ _ hdl)), fun l2 nl2 => ?_⟩
  have w2 : Same G1 (upd G1 l2 (.lst dxs)) := same_new nl2
  have x2 : upd G1 l2 (.lst dxs) l2 = some (.lst dxs) := upd_same
  generalize upd G1 l2 (.lst dxs) = G2 at w2 x2 ⊢
  intro x dx hx hdx' ne
  have w3 : Same G2 (upd (upd G2 dx (.own x)) x (.ins (He.ga K "Vault") dx [])) := (same_new hdx').trans (same_new (by rw [upd_ne (Ne.symm ne)]; exact hx))
  have w12 := w1.trans w2
  have w13 := w12.trans w3
  refine ⟨x, dx, l1, l2, cxs, dxs, ⟨cs, ds⟩, rfl, upd_same, .of ((w2.trans w3) _ _ x1), dps_same w13 hcx4, .of (w3 _ _ x2), dps_same w13 hdx, hgood, fun H5 b5 vt => ⟨rfl, ?_⟩⟩
  have s45 : Same H4 H5 := fun b o e => b5 _ _ (ne_of_none (w12 _ _ e) hx) (w13 _ _ e)
  have hcl5 := s45 _ _ hcl4
  have hcx5 := dps_same s45 hcx4
  have hdl5 := s45 _ _ hdl
  have hdx5 := dps_same s45 hdx
  have s05 := s4.trans s45
  -- the names
  refine ⟨_, rfl, dl, rfl, ⟨_, .of hdl5⟩, fun N nN => ?_⟩
  refine lc_out (n := dxs.length) walk_list nN (by omega) (fun i y H => ∃ c, ds[i]? = some c ∧ y = .str c.1) (fun _ _ _ _ _ _ h => h) (fun H' s => .of (s _ _ hdl5)) (fun i x H' H2 N F hi s y k => ?_) (fun H6 ws s6 hN el hz => ?_)
  · obtain ⟨rfl, ex⟩ := y
    obtain ⟨dd, ed, hdd⟩ := dps_get hdx5 ex
    obtain ⟨cc, ec, rfl⟩ := get_mapA ed
    obtain ⟨t, y1, y2, y3, rfl, ht, e1, e2, e3⟩ := dp3 (dp_same s hdd)
    cases dp_str e1
    exact ⟨rfl, iteT ⟨_, rfl, _, _, _, _, rfl, rfl, ht, at0, k _ _ (Same.refl _) ⟨cc, ec, rfl⟩⟩⟩
  have em : ws = ds.map fun d => V.str d.1 := map_of (by omega) fun i y e => hz i y e
  subst em
  clear hz el
  -- the calls
  refine ⟨_, rfl, dl, dxs, ds, rfl, .of (s6 _ _ hdl5), dps_same s6 hdx5, hdn.2, hch, fun kl kys H7 s7 nkl hkl hkys => ?_⟩
  -- the base of the rounds
  have s57 := s6.trans s7
  have s47 := s45.trans s57
  have hcl7 := s57 _ _ hcl5
  have hcx7 := dps_same s57 hcx5
  have hdl7 := s57 _ _ hdl5
  have hdx7 := dps_same s57 hdx5
  have vt7 := vt.same s57
  have hN7 := s7 _ _ hN
  have s07 := s05.trans s57
  have ha7 := s07.seq ha
  have hnm : Dp K H7 (.ref N) (.list (ds.map fun d => PyData.str d.1)) := .lst (.of hN7) (strs_dps ds)
  have hkd : Dp K H7 (.ref kl) (.list ((callsOf ds).map callD)) := .lst (.of hkl) (tups_dp hkys)
  have fnm : fit 49 (.list (ds.map fun d => PyData.str d.1)) := fit_lst (by rw [List.length_map]; omega) fun d hd => by
    obtain ⟨c, hc, rfl⟩ := List.mem_map.mp hd
    exact name_fit (hds c hc).1
  have c72 := callsOf_len ds fun d hd => (hch d hd).2
  have c1 := calls_one hdn.1 hch
  have fkd : fit 49 (.list ((callsOf ds).map callD)) := fit_lst (by rw [List.length_map]; omega) fun d hd => by
    obtain ⟨c, hc, rfl⟩ := List.mem_map.mp hd
    obtain ⟨e, he, e1⟩ := callsOf_mem hc
    refine fit_tup (n := 47) (by show 2 ≤ 100000; decide) fun d hd => ?_
    simp only [List.mem_cons, List.not_mem_nil, or_false] at hd
    rcases hd with rfl | rfl
    · rw [e1]; exact name_fit (hds e he).1
    · exact fit_i
  have hnok : ∀ d ∈ ds, NameOk d.1 := fun d hd => (hds d hd).1
  clear s1 s4 s45 s05 s57 s6 s7 b3 b4 b5 p3 p4 hcl5 hcx5 hdl5 hdx5 vt hN hcl4 hcx4 hdl hdx w1 w2 w3 w12 w13 x1 x2 hx hdx' pp np hcl hcx ha s47 s07
  -- the rounds
  have l63 : ((ns.map V.int).length : Int) ≤ 63 := by rw [List.length_map]; omega
  generalize hL : ((ns.map V.int).length : Int) = L at l63
  refine ⟨_, rfl, _, _, rfl, .inl ha7, _, _, rfl, _, _, rfl, _, _, rfl, ?_⟩
  rw [hL]
  have hm : ∀ M : Int, M = (if (if (21 : Int) < L then 21 else L) > 4 then (if (21 : Int) < L then 21 else L) else 4) → 4 ≤ M ∧ M ≤ 21 := fun M e => by
    rw [e]
    split <;> split <;> omega
  have hm := hm _ rfl
  generalize (if (if (21 : Int) < L then 21 else L) > 4 then (if (21 : Int) < L then 21 else L) else 4) = M at hm ⊢
  refine ⟨by omega, for_it (n := (M - 1).toNat) walk_range (fun i σ' H' => ∃ (z5 z8 z9 z10 z11 z12 z13 : Option V), σ' = [some (.ref a), some (.ref p), some (.ref cl), some (.ref dl), some (.ref x), z5, some (.ref N), some (.ref kl), z8, z9, z10, z11, z12, z13] ∧ Same H7 H') ⟨none, none, none, none, none, none, none, rfl, Same.refl _⟩ (fun _ _ _ _ _ => trivial) ?_ ?_⟩
  · rintro i z σ' Hz H' hi ⟨z5, z8, z9, z10, z11, z12, z13, rfl, s9⟩ ⟨rfl, rfl⟩
    refine ⟨_, rfl, _, rfl, a, ns, 1 + (i : Int), rfl, s9.seq ha7, hl, by omega, fun tp J1 r1 ntp ptp => ?_⟩
    have t1 := s9.trans r1
    have tp7 : H7 tp = none := none_of s9 ntp
    refine ⟨_, rfl, _, rfl, _, rfl, _, rfl, tp, dl, dxs, ds, rfl, ptp, t1 _ _ hdl7, (ne_of_none hdl7 tp7), dps_same t1 hdx7, hdn, hnok, fun v1 o1 J2 b2 p2 tg1 ft1 => ?_⟩
    have t2 := same_poolJ t1 tp7 b2
    refine ⟨x, dl, v1, ⟨cs, ds⟩, o1, dxs, rfl, vt7.same t2, hgood, .of (t2 _ _ hdl7), dps_same t2 hdx7, tg1, ft1, fun J3 r3 => ⟨_, rfl, iteF ?_⟩⟩
    have t3 := t2.trans r3
    have p3 := p2.same r3
    refine ⟨_, rfl, _, rfl, _, rfl, _, rfl, _, rfl, tp, cl, cxs, cs, rfl, p3, t3 _ _ hcl7, (ne_of_none hcl7 tp7), dps_same t3 hcx7, ⟨hcn.1, hcn.2⟩, hcs, fun v2 o2 J4 b4 p4 tg2 ft2 => ?_⟩
    have t4 := same_poolJ t3 tp7 b4
    refine ⟨x, cl, dl, v2, ⟨cs, ds⟩, o2, cxs, dxs, rfl, vt7.same t4, hgood, .of (t4 _ _ hcl7), dps_same t4 hcx7, .of (t4 _ _ hdl7), dps_same t4 hdx7, tg2, fun J5 r5 => ⟨_, rfl, iteF ?_⟩⟩
    have t5 := t4.trans r5
    obtain ⟨dx1, fs1, k1, k2⟩ := vat_me (vt7.same t5) "names"
    refine ⟨_, rfl, x, dx1, fs1, rfl, k1, k2, x, _, rfl, vt7.same t5, hdn.2, fun tl J6 r6 ntl htl => ?_⟩
    have t6 := t5.trans r6
    obtain ⟨dx2, fs2, k3, k4⟩ := vat_me (vt7.same t6) "calls"
    refine ⟨_, rfl, x, dx2, fs2, rfl, k3, k4, x, _, rfl, vt7.same t6, hgood.ok, fun al ays J7 r7 nal hal hays => ?_⟩
    have hays : TupsAt J7 ays (callsOf ds) := hays
    have t7 := t6.trans r7
    have htl7 := r7 _ _ htl
    have tl0 : H7 tl = none := none_of t5 ntl
    have al0 : H7 al = none := none_of t6 nal
    have tal : al ≠ tl := Ne.symm (ne_of_none htl nal)
    refine ⟨_, rfl, _, rfl, _, _, _, rfl, dp_same t7 hnm, .lst (.of htl7) (strs_dps ds), Nat.lt_succ_of_le (fit_dpt fnm).1, (fit_dpt fnm).2, fun J8 r8 => ⟨_, rfl, iteF ?_⟩⟩
    refine ⟨_, rfl, _, rfl, _, _, _, rfl, dp_same (t7.trans r8) hkd, .lst (.of (r8 _ _ hal)) (tups_dp (tups_same r8 hays)), Nat.lt_succ_of_le (fit_dpt fkd).1, (fit_dpt fkd).2, fun J9 r9 => ⟨_, rfl, iteF ?_⟩⟩
    have r79 := r8.trans r9
    have t9 := t7.trans r79
    have htl9 := r79 _ _ htl7
    have hal9 := r79 _ _ hal
    have las := tups_len hays
    -- the lists are changed
    refine ⟨_, rfl, .inl ⟨rfl, _, .of htl9⟩, tl, _, rfl, rfl, htl9, ?_⟩
    have e1 : ∀ zs : List V, But tl J9 (upd J9 tl (.lst zs)) := fun zs => But.upd
    generalize hrv : (ds.map fun d => V.str d.1).reverse = rv
    have lrv : rv.length = ds.length := by rw [← hrv, List.length_reverse, List.length_map]
    have b10 := e1 rv
    have htl10 : upd J9 tl (.lst rv) tl = some (.lst rv) := upd_same
    have hal10 : upd J9 tl (.lst rv) al = some (.lst ays) := by rw [upd_ne tal]; exact hal9
    have t10 : Same H7 (upd J9 tl (.lst rv)) := same_poolJ t9 tl0 b10
    generalize upd J9 tl (.lst rv) = J10 at htl10 hal10 t10 ⊢
    refine ⟨_, rfl, .inl ⟨rfl, _, .of htl10⟩, tl, _, _, rfl, rfl, htl10, by rw [sizeLine_eq]; omega, ?_⟩
    have t11 : Same H7 (upd J10 tl (.lst (rv ++ [.str "other"]))) := same_poolJ t10 tl0 But.upd
    have hal11 : upd J10 tl (.lst (rv ++ [.str "other"])) al = some (.lst ays) := by rw [upd_ne tal]; exact hal10
    generalize upd J10 tl (.lst (rv ++ [.str "other"])) = J11 at t11 hal11 ⊢
    obtain ⟨yl, hyl⟩ : ∃ y, ays[ays.length - 1]? = some y := ⟨_, List.getElem?_eq_getElem (show ays.length - 1 < ays.length by omega)⟩
    refine ⟨_, rfl, .inl ⟨rfl, _, .of hal11⟩, al, _, yl, rfl, rfl, hal11, hyl, ?_⟩
    have t12 : Same H7 (upd J11 al (.lst ays.dropLast)) := same_poolJ t11 al0 But.upd
    have hal12 : upd J11 al (.lst ays.dropLast) al = some (.lst ays.dropLast) := upd_same
    generalize upd J11 al (.lst ays.dropLast) = J12 at t12 hal12 ⊢
    obtain ⟨nm0, hnm0⟩ : ∃ y, (ds.map fun d => V.str d.1)[0]? = some y := ⟨_, List.getElem?_eq_getElem (show 0 < (ds.map fun d => V.str d.1).length by rw [List.length_map]; omega)⟩
    refine ⟨_, rfl, .inl ⟨rfl, _, .of hal12⟩, _, rfl, N, _, _, _, rfl, rfl, .of (t12 _ _ hN7), atI_nat (j := 0) hnm0, (by show 2 ≤ sizeLine; decide), fun u nu => ?_⟩
    have w13 := same_new (o := .tup [nm0, .int 9]) nu
    have hal13 := w13 _ _ hal12
    have t13 := t12.trans w13
    generalize upd J12 u (.tup [nm0, .int 9]) = J13 at hal13 t13 ⊢
    exact ⟨al, _, _, rfl, rfl, hal13, by rw [sizeLine_eq, List.length_dropLast]; omega, _, _, _, _, _, _, _, rfl, same_poolJ t13 al0 But.upd⟩
  rintro σ' H8 ⟨z5, z8, z9, z10, z11, z12, z13, rfl, s8⟩
  -- the nest
  refine ⟨(by show 1 ≤ sizeLine; decide), fun q0 nq0 => ?_⟩
  have u0 := same_new (o := .tup [.int 0]) nq0
  have hq0 : upd H8 q0 (.tup [.int 0]) q0 = some (.tup [.int 0]) := upd_same
  have t0 := s8.trans u0
  generalize upd H8 q0 (.tup [.int 0]) = H9 at hq0 t0 ⊢
  have dq0 : Dp K H9 (.ref q0) (.tuple [.int 0]) := .tup (.of hq0) (.cons (.int 0) .nil)
  refine ⟨55, rfl, by decide, by decide, for_it (n := 55) walk_range (fun i σ' H' => ∃ (v : V) (d : PyData) (z9 : Option V), σ' = [some (.ref a), some (.ref p), some (.ref cl), some (.ref dl), some (.ref x), z5, some (.ref N), some (.ref kl), z8, z9, z10, z11, some v, z13] ∧ Same H7 H' ∧ Dp K H' v d ∧ fit (i + 1) d) ⟨.ref q0, _, z9, rfl, t0, dq0, nestD_dp (k := 0) trivial⟩ (fun _ _ _ _ _ => trivial) ?_ ?_⟩
  · rintro j z σ' Hz H' hj ⟨v, d, _, rfl, s3, hv, hd⟩ ⟨rfl, rfl⟩
    refine ⟨_, rfl, (by show 1 ≤ sizeLine; decide), fun t nt => ?_⟩
    have sn := same_new (o := .tup [v]) nt
    exact ⟨_, .tuple [d], _, rfl, s3.trans sn, .tup (.of upd_same) (.cons (dp_same sn hv) .nil), nestD_dp hd⟩
  clear z9
  rintro σ' H10 ⟨dv, dd, z9, rfl, t10, hdv, hdd⟩
  -- the last things
  refine ⟨_, rfl, _, rfl, _, rfl, (by show 1 ≤ sizeLine; decide), fun v1 n1 => ⟨(by show 3 ≤ sizeLine; decide), fun v3 n3 => ?_⟩⟩
  have a1 := same_new (o := .lst [.ref x]) n1
  have g1 : upd H10 v1 (.lst [.ref x]) v1 = some (.lst [.ref x]) := upd_same
  generalize upd H10 v1 (.lst [.ref x]) = H11 at a1 g1 n3 ⊢
  have a2 := same_new (o := .lst [.ref x, dv, .ref v1]) n3
  have g2 : upd H11 v3 (.lst [.ref x, dv, .ref v1]) v3 = some (.lst [.ref x, dv, .ref v1]) := upd_same
  generalize upd H11 v3 (.lst [.ref x, dv, .ref v1]) = H12 at a2 g2 ⊢
  have a12 := a1.trans a2
  have t12 := t10.trans a12
  have g1' := a2 _ _ g1
  have hdv' := dp_same a12 hdv
  refine ⟨v3, rfl, ⟨_, .of g2⟩, for_list (xs := [.ref x, dv, .ref v1]) (fun i σ' H' => ∃ (z : Option V), σ' = [some (.ref a), some (.ref p), some (.ref cl), some (.ref dl), some (.ref x), z5, some (.ref N), some (.ref kl), z8, z9, z10, z11, some dv, z] ∧ Same H12 H') ⟨_, rfl, Same.refl _⟩ (fun i σ' H' _ ⟨_, _, s⟩ => .of (s _ _ g2)) ?_ ?_⟩
  · rintro i th σ' H' hi ⟨z, rfl, sH⟩
    have t13 := t12.trans sH
    have key : ∃ o, Tg K H' th o ∧ fitT o := by
      match i, hi with
      | 0, hi =>
        cases hi
        exact ⟨none, .vlt (vt7.same t13) hgood, fitT_none⟩
      | 1, hi =>
        cases hi
        exact ⟨_, .dat (dp_same sH hdv'), fitT_of (fit_up hdd (by decide))⟩
      | 2, hi =>
        cases hi
        exact ⟨none, .lst (.of (sH _ _ g1')), fitT_none⟩
      | n + 3, hi => simp at hi
    obtain ⟨o, tg, ft⟩ := key
    refine ⟨_, rfl, _, rfl, _, rfl, x, dl, th, ⟨cs, ds⟩, o, dxs, rfl, vt7.same t13, hgood, .of (t13 _ _ hdl7), dps_same t13 hdx7, tg, ft, fun J3 r3 => ⟨_, rfl, iteF ?_⟩⟩
    have t14 := t13.trans r3
    exact ⟨_, rfl, _, rfl, _, rfl, _, rfl, x, cl, dl, th, ⟨cs, ds⟩, o, cxs, dxs, rfl, vt7.same t14, hgood, .of (t14 _ _ hcl7), dps_same t14 hcx7, .of (t14 _ _ hdl7), dps_same t14 hdx7, tg.same r3, fun J5 r5 => ⟨_, rfl, iteF ⟨_, rfl, sH.trans (r3.trans r5)⟩⟩⟩
  rintro σ' H13 ⟨z, rfl, s13⟩
  have t13 := t12.trans s13
  -- the shape
  refine ⟨_, rfl, .inl ⟨cl, cxs, rfl, .of (t13 _ _ hcl7), fun w1 m1 => ⟨_, rfl, .inl ⟨dl, dxs, rfl, .of ((same_new m1) _ _ (t13 _ _ hdl7)), fun w2 m2 => ⟨(by show 2 ≤ sizeLine; decide), fun w3 m3 => ?_⟩⟩⟩⟩⟩
  have a3 := same_new (o := .tup cxs) m1
  have g3 : upd H13 w1 (.tup cxs) w1 = some (.tup cxs) := upd_same
  generalize upd H13 w1 (.tup cxs) = G1 at a3 g3 m2 m3 ⊢
  have a4 := same_new (o := .tup dxs) m2
  have g4 : upd G1 w2 (.tup dxs) w2 = some (.tup dxs) := upd_same
  generalize upd G1 w2 (.tup dxs) = G2 at a4 g4 m3 ⊢
  have a5 := same_new (o := .tup [.ref w1, .ref w2]) m3
  have g5 : upd G2 w3 (.tup [.ref w1, .ref w2]) w3 = some (.tup [.ref w1, .ref w2]) := upd_same
  generalize upd G2 w3 (.tup [.ref w1, .ref w2]) = G3 at a5 g5 ⊢
  have t16 := t13.trans ((a3.trans a4).trans a5)
  have dc : Dp K G3 (.ref w1) (.tuple (cs.map cellD)) := .tup (.of ((a4.trans a5) _ _ g3)) (dps_same t16 hcx7)
  have ddx : Dp K G3 (.ref w2) (.tuple (ds.map deedD)) := .tup (.of (a5 _ _ g4)) (dps_same t16 hdx7)
  obtain ⟨dx1, fs1, k1, k2⟩ := vat_me (vt7.same t16) "shape"
  refine ⟨_, rfl, x, dx1, fs1, rfl, k1, k2, x, _, rfl, vt7.same t16, fun t xx dd2 G4 a6 ht hxx hdd2 => ?_⟩
  have fsh : fit 49 (.tuple [.tuple (cs.map cellD), .tuple (ds.map deedD)]) := fit_tup (n := 48) (by show 2 ≤ 100000; decide) fun d h => by
    simp only [List.mem_cons, List.not_mem_nil, or_false] at h
    rcases h with rfl | rfl
    · exact fit_up (cells_fit hgood) (by decide)
    · exact fit_up (deeds_fit hgood) (by decide)
  exact ⟨_, _, .tuple [.tuple (cs.map cellD), .tuple (ds.map deedD)], rfl, .tup (.of (a6 _ _ g5)) (.cons (dp_same a6 dc) (.cons (dp_same a6 ddx) .nil)), .tup (.of ht) (.cons hxx (.cons hdd2 .nil)), Nat.lt_succ_of_le (fit_dpt fsh).1, (fit_dpt fsh).2, fun H' _ => q H'⟩
end

end M

open PySem PySem.W PySem.Calls PyProof.Rows
set_option maxRecDepth 100000 in
set_option maxHeartbeats 0 in
theorem PySem.Challenge.cw_pastless_k04_names_calls_and_begun_holds : PySem.Challenge.rw_pastless_k04_names_calls_and_begun.Holds := by
  w_on; o_law
  refine HandSHeadRun.head_any (r := OpenLaw.row PySem.Challenge.rw_pastless_k04_names_calls_and_begun) (q := view (OpenLaw.row PySem.Challenge.rw_pastless_k04_names_calls_and_begun).prog [67]) (H := M.hk) (ob := M.ob) (M := 8000) (loose := M.names) (d := HandSHeadRun.topDef (OpenLaw.row PySem.Challenge.rw_pastless_k04_names_calls_and_begun).prog 67) (kwd := []) M.ob_eq
    (by kernel_rfl) (fun s => by kernel_rfl) M.run (by kernel_rfl) (by kernel_rfl) (by kernel_rfl) (by rfl) (by first | assumption | decide +kernel) (by decide +kernel) ⟨rfl, rfl, rfl, rfl, rfl, by decide +kernel⟩ ?hw ?hc
  case hw => w_witness2
  case hc =>
    refine L2.walk_ofE (l := PySem.Challenge.rw_pastless_k04_names_calls_and_begun) (n := 63) (k := 57) (x := "_law_script") (CX := L2.CX0) rfl (by decide) (by kernel_rfl) ⟨rfl, by decide, by decide⟩ ?F (fun _ _ _ _ z => z)
    intro w mg fa h Y G hmg0
    obtain ⟨K, KX, c⟩ := Y
    have hmg : mg ("law" : PySem.Str) = some (.ref fa) := by
      have e : (HandSHeadRun.topDef (OpenLaw.row PySem.Challenge.rw_pastless_k04_names_calls_and_begun).prog 67).name = ("law" : PySem.Str) := by kernel_rfl
      rw [← e]
      exact hmg0
    have T : M.Txt w K mg := ⟨⟨h, c⟩, ⟨h, KX, G⟩⟩
    have e := hmg.symm.trans T.g_law
    cases e
    obtain ⟨fd, hF⟩ := T.f_law
    have b := fun s => L2.FunD.bindsA (ps := ["_law_script"]) hF (fun _ _ _ _ _ _ us hl => match us, hl with | [_], _ => rfl) s
    exact ⟨K, fd, M.spLaw K, KX, fun s v => b s [v] rfl, fun H a ns hl hO hS => ⟨a, ns, rfl, hS, hl, fun _ => rfl⟩, fun base _ _ => M.ok_law T hF⟩
