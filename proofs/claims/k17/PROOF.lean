import PyProof.Rows.All
import Wide.All
import OpenK.AllK
import Wide.FinOn
import KE.KStateDown
import HandS.ForMost
import HandS.ForExc
import HandS.More
import HandS.Conv
import HandS.IsInst
import HandS.DictComp
import HandS.Zip
import HandS.Walk
import HandS.SetKeys
import HandS.Codes
import HandS.CallLocal
import HandS.WrittenGet
import HandS.TryMany
import HandS.ExcField
import HandS.Flow
import HandS.Style
import HandS.Evl
import HandS.Wide
import HandS.WideBits
import HandS.Defaults
import HandS.Head0
import HandS.Head1
import HandS.Head2
import HandS.HeadEnd
import HandS.HeadHook1
import HandS.HeadHook2
import HandS.HeadHook3
import HandS.HeadHook4
import HandS.FStr
import PySem.Challenge.RW_pastless_k17_rows_weavings_states_as_tex
set_option Elab.async false
set_option linter.all false
set_option maxRecDepth 100000
set_option maxHeartbeats 2000000
namespace M
open PySem PySem.Spec PyProof.Rows L2
def top (i : Nat) : Stmt := PySem.Challenge.pw_pastless_k17_rows_weavings_states_as_tex.main.body.getD i (.Pass ⟨0, 0, 0, 0⟩)
abbrev s_NoRow_init : Stmt := inClass (top 3) 0
abbrev s_NoWeaving_init : Stmt := inClass (top 4) 0
abbrev s_NoText_init : Stmt := inClass (top 5) 0
abbrev s_is_integer : Stmt := top 9
abbrev s_is_within : Stmt := top 10
abbrev s_is_tuple : Stmt := top 11
abbrev s_is_name : Stmt := top 15
abbrev s_number_in : Stmt := top 18
abbrev s_is_call : Stmt := top 20
abbrev s_call_in : Stmt := top 21
abbrev s_row_text : Stmt := top 22
abbrev s_read_row : Stmt := top 23
abbrev s_read_items : Stmt := top 24
abbrev s_is_item : Stmt := top 25
abbrev s_item_in : Stmt := top 26
abbrev s_weaving_text : Stmt := top 27
abbrev s_read_weaving : Stmt := top 28
abbrev s_is_any_state : Stmt := top 29
abbrev s_state_text : Stmt := top 30
abbrev s_read_state : Stmt := top 31
abbrev s_l_pool : Stmt := top 33
abbrev s_l_draw : Stmt := top 34
abbrev s_l_name : Stmt := top 35
abbrev s_l_call : Stmt := top 36
abbrev s_l_item : Stmt := top 37
abbrev s_l_call_line : Stmt := top 38
abbrev s_l_item_line : Stmt := top 39
abbrev s_l_same : Stmt := top 40
abbrev s_l_is_list : Stmt := top 41
abbrev s_l_row : Stmt := top 42
abbrev s_l_weaving : Stmt := top 43
abbrev s_l_state : Stmt := top 44
abbrev s_law : Stmt := top 45
abbrev dd (x : Str) (st : Stmt) : He.DefD := ⟨(x, none), x, x, defArgs st, defBody st, defScope st, [], []⟩
abbrev dm (C m q : Str) (st : Stmt) : He.DefD := ⟨(C, some m), m, q, defArgs st, defBody st, defScope st, [], []⟩
def fn : List He.DefD := [dm "NoRow" "__init__" "NoRow.__init__" s_NoRow_init, dm "NoWeaving" "__init__" "NoWeaving.__init__" s_NoWeaving_init, dm "NoText" "__init__" "NoText.__init__" s_NoText_init, dd "is_integer" s_is_integer, dd "is_within" s_is_within, dd "is_tuple" s_is_tuple, dd "is_name" s_is_name, dd "number_in" s_number_in, dd "is_call" s_is_call, dd "call_in" s_call_in, dd "row_text" s_row_text, dd "read_row" s_read_row, dd "read_items" s_read_items, dd "is_item" s_is_item, dd "item_in" s_item_in, dd "weaving_text" s_weaving_text, dd "read_weaving" s_read_weaving, dd "is_any_state" s_is_any_state, dd "state_text" s_state_text, dd "read_state" s_read_state, dd "_law_pool" s_l_pool, dd "_law_draw" s_l_draw, dd "_law_name" s_l_name, dd "_law_call" s_l_call, dd "_law_item" s_l_item, dd "_law_call_line" s_l_call_line, dd "_law_item_line" s_l_item_line, dd "_law_same" s_l_same, dd "_law_is_list" s_l_is_list, dd "_law_row" s_l_row, dd "_law_weaving" s_l_weaving, dd "_law_state" s_l_state, dd "law" s_law]
def fa0 : List He.Fa := [.glo "is_integer", .glo "is_within", .glo "is_tuple", .glo "is_name", .glo "number_in", .glo "is_call", .glo "call_in", .glo "row_text", .glo "read_row", .glo "read_items", .glo "is_item", .glo "item_in", .glo "weaving_text", .glo "read_weaving", .glo "is_any_state", .glo "state_text", .glo "read_state", .glo "_law_pool", .glo "_law_draw", .glo "_law_name", .glo "_law_call", .glo "_law_item", .glo "_law_call_line", .glo "_law_item_line", .glo "_law_same", .glo "_law_is_list", .glo "_law_row", .glo "_law_weaving", .glo "_law_state", .glo "law"]
def fa1 : List He.Fa := [.glo "PastError", .glo "NoState", .glo "NoRow", .glo "NoWeaving", .glo "NoText", .free "len", .free "isinstance", .free "int", .free "abs", .free "tuple", .free "list", .free "str", .free "bool", .free "range", .free "zip", .free "enumerate", .free "set", .free "min", .free "max", .free "reversed", .free "sorted", .free "sum", .free "dict", .free "all", .int "MOST_CELLS" (6), .int "GREATEST_SIZE" (9), .int "LONGEST_NAME" (8), .int "MOST_CHOICES" (9), .int "MOST_DIGITS" (3)]
def fa : List He.Fa := fa0 ++ fa1
/-- the values of a written dict are tuples of texts -/
def formsB (K : PySem.W.Frag) (a : Addr) (kvs : List (Str × List Str)) : Bool := kvs.all fun q => match PySem.W.nsIn K a q.1 with
  | some (some (.ref t)) => (match K.lookup t with
    | some ⟨.type c, none, .seq its _, _⟩ => decide (c = "tuple") && (decide (its.size ≤ sizeLine) && He.relAll (q.2.map V.str) its.toList)
    | _ => false)
  | _ => false
def ts : List He.Tab := []
def ex (K : PySem.W.Frag) : Bool := true
end M

section
set_option maxRecDepth 100000
namespace M
open PySem PySem.Spec PyProof.Rows L2
set_option maxHeartbeats 0
def nm0 : List PySem.Str := ["PastError", "NoState", "NoRow", "NoWeaving", "NoText", "MOST_CELLS", "GREATEST_SIZE", "is_integer", "is_within", "is_tuple", "LONGEST_NAME", "MOST_CHOICES", "is_name", "MOST_DIGITS", "number_in", "is_call", "call_in", "row_text", "read_row", "read_items", "is_item", "item_in", "weaving_text", "read_weaving", "is_any_state", "state_text", "read_state", "_law_pool", "_law_draw", "_law_name"]
def nm1 : List PySem.Str := ["_law_call", "_law_item", "_law_call_line", "_law_item_line", "_law_same", "_law_is_list", "_law_row", "_law_weaving", "_law_state"]
def names : List PySem.Str := nm0 ++ nm1
abbrev R : PySem.W.OpenRow := PySem.W.OpenLaw.row PySem.Challenge.rw_pastless_k17_rows_weavings_states_as_tex
abbrev hk : PySem.W.Hook := He.hookX 4 fa fn ts [] ex
def ob (s : PySem.W.SharedT) : He.AlX := He.obsX 4 fa fn ts [] ex (HandSHeadRun.getT s)
theorem ob_eq (s : PySem.W.SharedT) : ob s = hk.obs s.abs := He.obsX_eq (HandSHeadRun.getT_eq s)
theorem run_false (w : World) : HandSHeadRun.RunEq R (PySem.W.view R.prog [45]) hk ob 8000 names (w.withFollow "special-get-raises" false) := by
  intro os
  kernel_rfl
theorem run_true (w : World) : HandSHeadRun.RunEq R (PySem.W.view R.prog [45]) hk ob 8000 names (w.withFollow "special-get-raises" true) := by
  intro os
  kernel_rfl
theorem run (w : World) : HandSHeadRun.RunEq R (PySem.W.view R.prog [45]) hk ob 8000 names w :=
  PySem.W.byRow2 "special-get-raises" (P := fun w => HandSHeadRun.RunEq R (PySem.W.view R.prog [45]) hk ob 8000 names w) run_false run_true w
end M
end

namespace M
open PySem PySem.Spec PyProof.Rows L2
/-- what the top has written -/
structure Txt (w : World) (K : PySem.W.Frag) (mg : Str → Option Value) : Prop where
  says : ∃ h, He.SaysX fa fn ts [] ex w h K
  X : ∃ h : Heap, K.In h ∧ h.Ns mainGlobals mg
section
variable {P : Program} {w : World} {K : PySem.W.Frag} {mg : Str → Option Value} {base : Heap}
theorem Txt.fact (T : Txt w K mg) (i : Nat) {f : He.Fa} (h : fa[i]? = some f := by rfl) : f.ok K = true := by
  obtain ⟨_, s⟩ := T.says
  exact s.t.d.fact i h
theorem Txt.glo (T : Txt w K mg) (i : Nat) {x : Str} (h : fa[i]? = some (.glo x) := by rfl) : mg x = some (.ref (He.ga K x)) := by
  obtain ⟨_, X, G⟩ := T.X
  exact He.glo_ok X G (T.fact i h)
theorem Txt.fr (T : Txt w K mg) (i : Nat) {x : Str} (h : fa[i]? = some (.free x) := by rfl) : mg x = none := by
  obtain ⟨_, X, G⟩ := T.X
  exact He.free_ok X G (T.fact i h)
theorem Txt.int (T : Txt w K mg) (i : Nat) {x : Str} {n : Int} (h : fa[i]? = some (.int x n) := by rfl) : ∃ u, mg x = some u ∧ RelV (.int n) u := by
  obtain ⟨_, X, G⟩ := T.X
  obtain ⟨t, e⟩ := He.int_ok X G (T.fact i h)
  exact ⟨_, e, ⟨t, rfl⟩⟩
theorem Txt.fd (T : Txt w K mg) (i : Nat) {d : He.DefD} (h : fn[i]? = some d := by rfl) : ∃ f, FunD K d.name d.qual d.params d.body d.scope (d.dvs K) (d.kws K) (He.fAd K d.at_) f := by
  obtain ⟨_, s⟩ := T.says
  exact s.t.d.def_ i h
theorem Txt.ex (T : Txt w K mg) : ex K = true := by
  obtain ⟨_, s⟩ := T.says
  exact s.more
theorem Txt.tab (T : Txt w K mg) (i : Nat) {t : He.Tab} (h : ts[i]? = some t := by rfl) : ∃ es n, KDict K w (t.1 K) es n := by
  obtain ⟨_, s⟩ := T.says
  exact s.t.tab i h
end
/-! places of the facts: 0 glo "is_integer"; 1 glo "is_within"; 2 glo "is_tuple"; 3 glo "is_name"; 4 glo "number_in"; 5 glo "is_call"; 6 glo "call_in"; 7 glo "row_text"; 8 glo "read_row"; 9 glo "read_items"; 10 glo "is_item"; 11 glo "item_in"; 12 glo "weaving_text"; 13 glo "read_weaving"; 14 glo "is_any_state"; 15 glo "state_text"; 16 glo "read_state"; 17 glo "_law_pool"; 18 glo "_law_draw"; 19 glo "_law_name"; 20 glo "_law_call"; 21 glo "_law_item"; 22 glo "_law_call_line"; 23 glo "_law_item_line"; 24 glo "_law_same"; 25 glo "_law_is_list"; 26 glo "_law_row"; 27 glo "_law_weaving"; 28 glo "_law_state"; 29 glo "law"; 30 glo "PastError"; 31 glo "NoState"; 32 glo "NoRow"; 33 glo "NoWeaving"; 34 glo "NoText"; 35 free "len"; 36 free "isinstance"; 37 free "int"; 38 free "abs"; 39 free "tuple"; 40 free "list"; 41 free "str"; 42 free "bool"; 43 free "range"; 44 free "zip"; 45 free "enumerate"; 46 free "set"; 47 free "min"; 48 free "max"; 49 free "reversed"; 50 free "sorted"; 51 free "sum"; 52 free "dict"; 53 free "all"; 54 int "MOST_CELLS" (6); 55 int "GREATEST_SIZE" (9); 56 int "LONGEST_NAME" (8); 57 int "MOST_CHOICES" (9); 58 int "MOST_DIGITS" (3) -/
section
variable {P : Program} {w : World} {K : PySem.W.Frag} {mg : Str → Option Value} {base : Heap}
theorem Txt.g_is_integer (T : Txt w K mg) : mg "is_integer" = some (.ref (He.ga K "is_integer")) := T.glo 0
theorem Txt.g_is_within (T : Txt w K mg) : mg "is_within" = some (.ref (He.ga K "is_within")) := T.glo 1
theorem Txt.g_is_tuple (T : Txt w K mg) : mg "is_tuple" = some (.ref (He.ga K "is_tuple")) := T.glo 2
theorem Txt.g_is_name (T : Txt w K mg) : mg "is_name" = some (.ref (He.ga K "is_name")) := T.glo 3
theorem Txt.g_number_in (T : Txt w K mg) : mg "number_in" = some (.ref (He.ga K "number_in")) := T.glo 4
theorem Txt.g_is_call (T : Txt w K mg) : mg "is_call" = some (.ref (He.ga K "is_call")) := T.glo 5
theorem Txt.g_call_in (T : Txt w K mg) : mg "call_in" = some (.ref (He.ga K "call_in")) := T.glo 6
theorem Txt.g_row_text (T : Txt w K mg) : mg "row_text" = some (.ref (He.ga K "row_text")) := T.glo 7
theorem Txt.g_read_row (T : Txt w K mg) : mg "read_row" = some (.ref (He.ga K "read_row")) := T.glo 8
theorem Txt.g_read_items (T : Txt w K mg) : mg "read_items" = some (.ref (He.ga K "read_items")) := T.glo 9
theorem Txt.g_is_item (T : Txt w K mg) : mg "is_item" = some (.ref (He.ga K "is_item")) := T.glo 10
theorem Txt.g_item_in (T : Txt w K mg) : mg "item_in" = some (.ref (He.ga K "item_in")) := T.glo 11
theorem Txt.g_weaving_text (T : Txt w K mg) : mg "weaving_text" = some (.ref (He.ga K "weaving_text")) := T.glo 12
theorem Txt.g_read_weaving (T : Txt w K mg) : mg "read_weaving" = some (.ref (He.ga K "read_weaving")) := T.glo 13
theorem Txt.g_is_any_state (T : Txt w K mg) : mg "is_any_state" = some (.ref (He.ga K "is_any_state")) := T.glo 14
theorem Txt.g_state_text (T : Txt w K mg) : mg "state_text" = some (.ref (He.ga K "state_text")) := T.glo 15
theorem Txt.g_read_state (T : Txt w K mg) : mg "read_state" = some (.ref (He.ga K "read_state")) := T.glo 16
theorem Txt.g_law_pool (T : Txt w K mg) : mg "_law_pool" = some (.ref (He.ga K "_law_pool")) := T.glo 17
theorem Txt.g_law_draw (T : Txt w K mg) : mg "_law_draw" = some (.ref (He.ga K "_law_draw")) := T.glo 18
theorem Txt.g_law_name (T : Txt w K mg) : mg "_law_name" = some (.ref (He.ga K "_law_name")) := T.glo 19
theorem Txt.g_law_call (T : Txt w K mg) : mg "_law_call" = some (.ref (He.ga K "_law_call")) := T.glo 20
theorem Txt.g_law_item (T : Txt w K mg) : mg "_law_item" = some (.ref (He.ga K "_law_item")) := T.glo 21
theorem Txt.g_law_call_line (T : Txt w K mg) : mg "_law_call_line" = some (.ref (He.ga K "_law_call_line")) := T.glo 22
theorem Txt.g_law_item_line (T : Txt w K mg) : mg "_law_item_line" = some (.ref (He.ga K "_law_item_line")) := T.glo 23
theorem Txt.g_law_same (T : Txt w K mg) : mg "_law_same" = some (.ref (He.ga K "_law_same")) := T.glo 24
theorem Txt.g_law_is_list (T : Txt w K mg) : mg "_law_is_list" = some (.ref (He.ga K "_law_is_list")) := T.glo 25
theorem Txt.g_law_row (T : Txt w K mg) : mg "_law_row" = some (.ref (He.ga K "_law_row")) := T.glo 26
theorem Txt.g_law_weaving (T : Txt w K mg) : mg "_law_weaving" = some (.ref (He.ga K "_law_weaving")) := T.glo 27
theorem Txt.g_law_state (T : Txt w K mg) : mg "_law_state" = some (.ref (He.ga K "_law_state")) := T.glo 28
theorem Txt.g_law (T : Txt w K mg) : mg "law" = some (.ref (He.ga K "law")) := T.glo 29
theorem Txt.g_PastError (T : Txt w K mg) : mg "PastError" = some (.ref (He.ga K "PastError")) := T.glo 30
theorem Txt.g_NoState (T : Txt w K mg) : mg "NoState" = some (.ref (He.ga K "NoState")) := T.glo 31
theorem Txt.g_NoRow (T : Txt w K mg) : mg "NoRow" = some (.ref (He.ga K "NoRow")) := T.glo 32
theorem Txt.g_NoWeaving (T : Txt w K mg) : mg "NoWeaving" = some (.ref (He.ga K "NoWeaving")) := T.glo 33
theorem Txt.g_NoText (T : Txt w K mg) : mg "NoText" = some (.ref (He.ga K "NoText")) := T.glo 34
theorem Txt.b_len (T : Txt w K mg) : mg "len" = none := T.fr 35
theorem Txt.b_isinstance (T : Txt w K mg) : mg "isinstance" = none := T.fr 36
theorem Txt.b_int (T : Txt w K mg) : mg "int" = none := T.fr 37
theorem Txt.b_abs (T : Txt w K mg) : mg "abs" = none := T.fr 38
theorem Txt.b_tuple (T : Txt w K mg) : mg "tuple" = none := T.fr 39
theorem Txt.b_list (T : Txt w K mg) : mg "list" = none := T.fr 40
theorem Txt.b_str (T : Txt w K mg) : mg "str" = none := T.fr 41
theorem Txt.b_bool (T : Txt w K mg) : mg "bool" = none := T.fr 42
theorem Txt.b_range (T : Txt w K mg) : mg "range" = none := T.fr 43
theorem Txt.b_zip (T : Txt w K mg) : mg "zip" = none := T.fr 44
theorem Txt.b_enumerate (T : Txt w K mg) : mg "enumerate" = none := T.fr 45
theorem Txt.b_set (T : Txt w K mg) : mg "set" = none := T.fr 46
theorem Txt.b_min (T : Txt w K mg) : mg "min" = none := T.fr 47
theorem Txt.b_max (T : Txt w K mg) : mg "max" = none := T.fr 48
theorem Txt.b_reversed (T : Txt w K mg) : mg "reversed" = none := T.fr 49
theorem Txt.b_sorted (T : Txt w K mg) : mg "sorted" = none := T.fr 50
theorem Txt.b_sum (T : Txt w K mg) : mg "sum" = none := T.fr 51
theorem Txt.b_dict (T : Txt w K mg) : mg "dict" = none := T.fr 52
theorem Txt.b_all (T : Txt w K mg) : mg "all" = none := T.fr 53
theorem Txt.i_MOST_CELLS (T : Txt w K mg) : ∃ u, mg "MOST_CELLS" = some u ∧ RelV (.int 6) u := T.int 54
theorem Txt.i_GREATEST_SIZE (T : Txt w K mg) : ∃ u, mg "GREATEST_SIZE" = some u ∧ RelV (.int 9) u := T.int 55
theorem Txt.i_LONGEST_NAME (T : Txt w K mg) : ∃ u, mg "LONGEST_NAME" = some u ∧ RelV (.int 8) u := T.int 56
theorem Txt.i_MOST_CHOICES (T : Txt w K mg) : ∃ u, mg "MOST_CHOICES" = some u ∧ RelV (.int 9) u := T.int 57
theorem Txt.i_MOST_DIGITS (T : Txt w K mg) : ∃ u, mg "MOST_DIGITS" = some u ∧ RelV (.int 3) u := T.int 58
theorem Txt.f_NoRow_init (T : Txt w K mg) : ∃ f, FunD K "__init__" "NoRow.__init__" (defArgs s_NoRow_init) (defBody s_NoRow_init) (defScope s_NoRow_init) [] [] (He.fAd K ("NoRow", some "__init__")) f := T.fd 0
theorem Txt.f_NoWeaving_init (T : Txt w K mg) : ∃ f, FunD K "__init__" "NoWeaving.__init__" (defArgs s_NoWeaving_init) (defBody s_NoWeaving_init) (defScope s_NoWeaving_init) [] [] (He.fAd K ("NoWeaving", some "__init__")) f := T.fd 1
theorem Txt.f_NoText_init (T : Txt w K mg) : ∃ f, FunD K "__init__" "NoText.__init__" (defArgs s_NoText_init) (defBody s_NoText_init) (defScope s_NoText_init) [] [] (He.fAd K ("NoText", some "__init__")) f := T.fd 2
theorem Txt.f_is_integer (T : Txt w K mg) : ∃ f, FunD K "is_integer" "is_integer" (defArgs s_is_integer) (defBody s_is_integer) (defScope s_is_integer) [] [] (He.fAd K ("is_integer", none)) f := T.fd 3
theorem Txt.f_is_within (T : Txt w K mg) : ∃ f, FunD K "is_within" "is_within" (defArgs s_is_within) (defBody s_is_within) (defScope s_is_within) [] [] (He.fAd K ("is_within", none)) f := T.fd 4
theorem Txt.f_is_tuple (T : Txt w K mg) : ∃ f, FunD K "is_tuple" "is_tuple" (defArgs s_is_tuple) (defBody s_is_tuple) (defScope s_is_tuple) [] [] (He.fAd K ("is_tuple", none)) f := T.fd 5
theorem Txt.f_is_name (T : Txt w K mg) : ∃ f, FunD K "is_name" "is_name" (defArgs s_is_name) (defBody s_is_name) (defScope s_is_name) [] [] (He.fAd K ("is_name", none)) f := T.fd 6
theorem Txt.f_number_in (T : Txt w K mg) : ∃ f, FunD K "number_in" "number_in" (defArgs s_number_in) (defBody s_number_in) (defScope s_number_in) [] [] (He.fAd K ("number_in", none)) f := T.fd 7
theorem Txt.f_is_call (T : Txt w K mg) : ∃ f, FunD K "is_call" "is_call" (defArgs s_is_call) (defBody s_is_call) (defScope s_is_call) [] [] (He.fAd K ("is_call", none)) f := T.fd 8
theorem Txt.f_call_in (T : Txt w K mg) : ∃ f, FunD K "call_in" "call_in" (defArgs s_call_in) (defBody s_call_in) (defScope s_call_in) [] [] (He.fAd K ("call_in", none)) f := T.fd 9
theorem Txt.f_row_text (T : Txt w K mg) : ∃ f, FunD K "row_text" "row_text" (defArgs s_row_text) (defBody s_row_text) (defScope s_row_text) [] [] (He.fAd K ("row_text", none)) f := T.fd 10
theorem Txt.f_read_row (T : Txt w K mg) : ∃ f, FunD K "read_row" "read_row" (defArgs s_read_row) (defBody s_read_row) (defScope s_read_row) [] [] (He.fAd K ("read_row", none)) f := T.fd 11
theorem Txt.f_read_items (T : Txt w K mg) : ∃ f, FunD K "read_items" "read_items" (defArgs s_read_items) (defBody s_read_items) (defScope s_read_items) [] [] (He.fAd K ("read_items", none)) f := T.fd 12
theorem Txt.f_is_item (T : Txt w K mg) : ∃ f, FunD K "is_item" "is_item" (defArgs s_is_item) (defBody s_is_item) (defScope s_is_item) [] [] (He.fAd K ("is_item", none)) f := T.fd 13
theorem Txt.f_item_in (T : Txt w K mg) : ∃ f, FunD K "item_in" "item_in" (defArgs s_item_in) (defBody s_item_in) (defScope s_item_in) [] [] (He.fAd K ("item_in", none)) f := T.fd 14
theorem Txt.f_weaving_text (T : Txt w K mg) : ∃ f, FunD K "weaving_text" "weaving_text" (defArgs s_weaving_text) (defBody s_weaving_text) (defScope s_weaving_text) [] [] (He.fAd K ("weaving_text", none)) f := T.fd 15
theorem Txt.f_read_weaving (T : Txt w K mg) : ∃ f, FunD K "read_weaving" "read_weaving" (defArgs s_read_weaving) (defBody s_read_weaving) (defScope s_read_weaving) [] [] (He.fAd K ("read_weaving", none)) f := T.fd 16
theorem Txt.f_is_any_state (T : Txt w K mg) : ∃ f, FunD K "is_any_state" "is_any_state" (defArgs s_is_any_state) (defBody s_is_any_state) (defScope s_is_any_state) [] [] (He.fAd K ("is_any_state", none)) f := T.fd 17
theorem Txt.f_state_text (T : Txt w K mg) : ∃ f, FunD K "state_text" "state_text" (defArgs s_state_text) (defBody s_state_text) (defScope s_state_text) [] [] (He.fAd K ("state_text", none)) f := T.fd 18
theorem Txt.f_read_state (T : Txt w K mg) : ∃ f, FunD K "read_state" "read_state" (defArgs s_read_state) (defBody s_read_state) (defScope s_read_state) [] [] (He.fAd K ("read_state", none)) f := T.fd 19
theorem Txt.f_l_pool (T : Txt w K mg) : ∃ f, FunD K "_law_pool" "_law_pool" (defArgs s_l_pool) (defBody s_l_pool) (defScope s_l_pool) [] [] (He.fAd K ("_law_pool", none)) f := T.fd 20
theorem Txt.f_l_draw (T : Txt w K mg) : ∃ f, FunD K "_law_draw" "_law_draw" (defArgs s_l_draw) (defBody s_l_draw) (defScope s_l_draw) [] [] (He.fAd K ("_law_draw", none)) f := T.fd 21
theorem Txt.f_l_name (T : Txt w K mg) : ∃ f, FunD K "_law_name" "_law_name" (defArgs s_l_name) (defBody s_l_name) (defScope s_l_name) [] [] (He.fAd K ("_law_name", none)) f := T.fd 22
theorem Txt.f_l_call (T : Txt w K mg) : ∃ f, FunD K "_law_call" "_law_call" (defArgs s_l_call) (defBody s_l_call) (defScope s_l_call) [] [] (He.fAd K ("_law_call", none)) f := T.fd 23
theorem Txt.f_l_item (T : Txt w K mg) : ∃ f, FunD K "_law_item" "_law_item" (defArgs s_l_item) (defBody s_l_item) (defScope s_l_item) [] [] (He.fAd K ("_law_item", none)) f := T.fd 24
theorem Txt.f_l_call_line (T : Txt w K mg) : ∃ f, FunD K "_law_call_line" "_law_call_line" (defArgs s_l_call_line) (defBody s_l_call_line) (defScope s_l_call_line) [] [] (He.fAd K ("_law_call_line", none)) f := T.fd 25
theorem Txt.f_l_item_line (T : Txt w K mg) : ∃ f, FunD K "_law_item_line" "_law_item_line" (defArgs s_l_item_line) (defBody s_l_item_line) (defScope s_l_item_line) [] [] (He.fAd K ("_law_item_line", none)) f := T.fd 26
theorem Txt.f_l_same (T : Txt w K mg) : ∃ f, FunD K "_law_same" "_law_same" (defArgs s_l_same) (defBody s_l_same) (defScope s_l_same) [] [] (He.fAd K ("_law_same", none)) f := T.fd 27
theorem Txt.f_l_is_list (T : Txt w K mg) : ∃ f, FunD K "_law_is_list" "_law_is_list" (defArgs s_l_is_list) (defBody s_l_is_list) (defScope s_l_is_list) [] [] (He.fAd K ("_law_is_list", none)) f := T.fd 28
theorem Txt.f_l_row (T : Txt w K mg) : ∃ f, FunD K "_law_row" "_law_row" (defArgs s_l_row) (defBody s_l_row) (defScope s_l_row) [] [] (He.fAd K ("_law_row", none)) f := T.fd 29
theorem Txt.f_l_weaving (T : Txt w K mg) : ∃ f, FunD K "_law_weaving" "_law_weaving" (defArgs s_l_weaving) (defBody s_l_weaving) (defScope s_l_weaving) [] [] (He.fAd K ("_law_weaving", none)) f := T.fd 30
theorem Txt.f_l_state (T : Txt w K mg) : ∃ f, FunD K "_law_state" "_law_state" (defArgs s_l_state) (defBody s_l_state) (defScope s_l_state) [] [] (He.fAd K ("_law_state", none)) f := T.fd 31
theorem Txt.f_law (T : Txt w K mg) : ∃ f, FunD K "law" "law" (defArgs s_law) (defBody s_law) (defScope s_law) [] [] (He.fAd K ("law", none)) f := T.fd 32
end
end M

set_option Elab.async false
set_option linter.all false
set_option maxRecDepth 100000
set_option maxHeartbeats 2000000
namespace M
open PySem PySem.Spec PyProof.Rows L2
/-! ### defs by their names, what they promise -/
/-- the global name x holds a def that keeps sp at level k -/
structure Ca (P : Program) (w : World) (K : PySem.W.Frag) (mg : Str → Option Value) (base : Heap) (k : Nat) (x : Str) (sp : Sp) : Prop where
  ex : ∃ (f : Addr) (fd : FuncData) (ps : List Str), FnOk P w K mg base CX0 k f fd ps sp ∧ mg x = some (.ref f) ∧ PySem.W.keepIn K (.ref f) = true ∧ Binds K fd ps []
/-- a method of the class C -/
structure Me (P : Program) (w : World) (K : PySem.W.Frag) (mg : Str → Option Value) (base : Heap) (k : Nat) (C : Addr) (m : Str) (sp : Sp) : Prop where
  ex : ∃ (f : Addr) (fd : FuncData) (ps : List Str), Cls K C ∧ Meth K C m f ∧ FnOk P w K mg base CX0 k f fd ps sp ∧ Binds K fd ps []
/-- the class x is made by its __init__ -/
structure Ma (P : Program) (w : World) (K : PySem.W.Frag) (mg : Str → Option Value) (base : Heap) (k : Nat) (x : Str) (C : Addr) (sp : Sp) : Prop where
  ex : ∃ (f : Addr) (fd : FuncData) (ps : List Str), Mk K C f ∧ FnOk P w K mg base CX0 k f fd ps sp ∧ mg x = some (.ref C) ∧ Binds K fd ps []
section
variable {P : Program} {w : World} {K : PySem.W.Frag} {mg : Str → Option Value} {base : Heap} {x m q : Str} {st : Stmt} {N ps : List Str} {k : Nat} {sp : Sp} {C f : Addr}
abbrev BindsH (x q : Str) (st : Stmt) (ps : List Str) : Prop := ∀ (kV doc pm : Value) (an : Option Addr) (cdv ct : Value) (us : List Value), us.length = ps.length → bindArgs (PySem.W.fnOf x q (defArgs st) (defBody st) (defScope st) .none kV doc pm an cdv ct) ⟨us, []⟩ = pure (ps.zip us)
abbrev BodyH (P : Program) (w : World) (K : PySem.W.Frag) (mg : Str → Option Value) (base : Heap) (q : Str) (st : Stmt) (N : List Str) (k : Nat) (f : Addr) (sp : Sp) : Prop := ∀ (cdv : Value) (A : Around) (outer : List Env) (s : Shared) (H : Hp) (vs : List V) (Q : VK) (E : XK), Room k (A.deeper (envOfC q (defScope st) s.heap.objs.size f cdv)) → sp vs H Q E →
      ∃ t, PSs (cxOf CX0 P w K mg base N q (defScope st) f cdv A outer s H E).nox (defBody st) t ∧ t { nx := fun _ H' => Q .non H', rt := Q } (start N vs) H
theorem fn_d {fd : FuncData} (F : FunD K x q (defArgs st) (defBody st) (defScope st) [] [] f fd) (S : FnScope N ps (defScope st)) (len : ∀ vs H Q E, sp vs H Q E → vs.length = ps.length)
    (hbody : BodyH P w K mg base q st N k f sp) : FnOk P w K mg base CX0 (k + 1) f fd ps sp := by
  refine F.ok S len (fun cdv A outer s H vs Q E hr h => ?_)
  obtain ⟨t, h1, h2⟩ := hbody cdv A outer s H vs Q E hr h
  exact ⟨t, h1.nox, h2⟩
theorem ca_of (F : ∃ fd, FunD K x x (defArgs st) (defBody st) (defScope st) [] [] (He.fAd K (x, none)) fd) (g : mg x = some (.ref (He.ga K x))) (S : FnScope N ps (defScope st)) (hb : BindsH x x st ps) (len : ∀ vs H Q E, sp vs H Q E → vs.length = ps.length)
    (hbody : BodyH P w K mg base x st N k (He.fAd K (x, none)) sp) : Ca P w K mg base (k + 1) x sp := by
  obtain ⟨fd, F⟩ := F
  exact ⟨_, fd, ps, fn_d F S len hbody, g, F.kp, F.bindsN hb⟩
theorem me_of {C : Str} (F : ∃ fd, FunD K m q (defArgs st) (defBody st) (defScope st) [] [] (He.fAd K (C, some m)) fd) (c : Cls K (He.ga K C)) (g : Meth K (He.ga K C) m (He.ma K (He.ga K C) m)) (S : FnScope N ps (defScope st)) (hb : BindsH m q st ps) (len : ∀ vs H Q E, sp vs H Q E → vs.length = ps.length)
    (hbody : BodyH P w K mg base q st N k (He.fAd K (C, some m)) sp) : Me P w K mg base (k + 1) (He.ga K C) m sp := by
  obtain ⟨fd, F⟩ := F
  exact ⟨_, fd, ps, c, g, fn_d F S len hbody, F.bindsN hb⟩
theorem ma_of {C : Str} (F : ∃ fd, FunD K "__init__" q (defArgs st) (defBody st) (defScope st) [] [] (He.fAd K (C, some "__init__")) fd) (g : mg C = some (.ref (He.ga K C))) (mk : Mk K (He.ga K C) (He.ma K (He.ga K C) "__init__")) (S : FnScope N ps (defScope st)) (hb : BindsH "__init__" q st ps) (len : ∀ vs H Q E, sp vs H Q E → vs.length = ps.length)
    (hbody : BodyH P w K mg base q st N k (He.fAd K (C, some "__init__")) sp) : Ma P w K mg base (k + 1) C (He.ga K C) sp := by
  obtain ⟨fd, F⟩ := F
  exact ⟨_, fd, ps, mk, fn_d F S len hbody, g, F.bindsN hb⟩
theorem Ca.mono {j : Nat} (c : Ca P w K mg base j x sp) (h : j ≤ k) : Ca P w K mg base k x sp := by
  obtain ⟨f, fd, ps, F, r⟩ := c.ex
  exact ⟨f, fd, ps, F.mono h, r⟩
end
section
variable {X : Cx} {k j : Nat} {x m : Str} {sp : Sp} {C : Addr} {p pos apos : Pos} {e o : Expr} {es : List Expr} {t : TA} {ta : TE}
theorem pe_ca (c : Ca X.prog X.w X.K X.mg X.base k x sp) (hr : Room j X.A) (ha : PA X (e :: es) t) (hk : k ≤ j := by decide) (hg : Gl X x := by rfl)
    (hdb : (x == ("__debug__" : Str)) = false := by decide) (he : starEach (e :: es) X.env = (false, eval e X.env) :: starEach es X.env := by rfl) (hpl : (backTo pos (starEach es X.env)).any (·.1) = false := by rfl) :
    PE X (.Call (.Name x p) (e :: es) [] pos) (tCall sp [] E0 t) := by
  obtain ⟨f, fd, ps, F, hm, kp, b⟩ := c.ex
  exact pe_call F (hr.mono hk) hg hm kp b .nil pass0 ha hdb he hpl
theorem pe_ma (c : Ma X.prog X.w X.K X.mg X.base k x C sp) (hr : Room j X.A) (ha : PA X (e :: es) t) (hk : k + 1 ≤ j := by decide) (hg : Gl X x := by rfl)
    (hdb : (x == ("__debug__" : Str)) = false := by decide) (he : starEach (e :: es) X.env = (false, eval e X.env) :: starEach es X.env := by rfl) (hpl : (backTo pos (starEach es X.env)).any (·.1) = false := by rfl) :
    PE X (.Call (.Name x p) (e :: es) [] pos) (tMake C sp [] E0 t) := by
  obtain ⟨f, fd, ps, M, F, hm, b⟩ := c.ex
  exact pe_make M F (hr.mono hk) hg hm b .nil pass0 ha hdb he hpl
theorem pe_me0 {pl : Sem Bool} (c : Me X.prog X.w X.K X.mg X.base k C m sp) (hr : Room j X.A) (he : PE X o ta) (hk : k ≤ j := by decide)
    (ht : eval (.Call (.Attribute o m apos) [] [] pos) X.env = (do
      let ov ← eval o X.env
      standAt apos.atName
      let (f, first) ← holding [ov] (getMethod ov m pl)
      callWith pos f first (backTo pos (starEach [] X.env)) (backToKw pos (keywordEach [] X.env))) := by rfl) :
    PE X (.Call (.Attribute o m apos) [] [] pos) (tMeth C m sp [] E0 ta tNil) := by
  obtain ⟨f, fd, ps, hc, hm, F, b⟩ := c.ex
  exact pe_meth0 (pl := pl) he hc hm F (hr.mono hk) b .nil pass0 ht
theorem pe_me {pl : Sem Bool} (c : Me X.prog X.w X.K X.mg X.base k C m sp) (hr : Room j X.A) (he : PE X o ta) (ha : PA X (e :: es) t) (hk : k ≤ j := by decide)
    (hst : starEach (e :: es) X.env = (false, eval e X.env) :: starEach es X.env := by rfl) (hpl : (backTo pos (starEach es X.env)).any (·.1) = false := by rfl)
    (ht : eval (.Call (.Attribute o m apos) (e :: es) [] pos) X.env = (do
      let ov ← eval o X.env
      standAt apos.atName
      let (f, first) ← holding [ov] (getMethod ov m pl)
      callWith pos f first (backTo pos (starEach (e :: es) X.env)) (backToKw pos (keywordEach [] X.env))) := by rfl) :
    PE X (.Call (.Attribute o m apos) (e :: es) [] pos) (tMeth C m sp [] E0 ta t) := by
  obtain ⟨f, fd, ps, hc, hm, F, b⟩ := c.ex
  exact pe_meth (pl := pl) he hc hm F (hr.mono hk) b .nil pass0 ha hst hpl ht
/-- isinstance(a, b) -/
theorem pe_isi {a b : Expr} {ta tb : TE} (h : X.mg "isinstance" = none) (ha : PE X a ta) (hb : PE X b tb) (hg : Gl X "isinstance" := by rfl)
    (he : starEach [a, b] X.env = (false, eval a X.env) :: starEach [b] X.env := by rfl) (hpl : (backTo pos (starEach [b] X.env)).any (·.1) = false := by rfl)
    (he2 : starEach [b] X.env = (false, eval b X.env) :: starEach [] X.env := by rfl) :
    PE X (.Call (.Name "isinstance" p) [a, b] [] pos) (tCB (rIsi X.K) (tCons ta (tCons tb tNil))) :=
  pe_callB call_isi hg h boot_isinstance (pa_cons ha (pa_cons hb pa_nil he2) he) (he := he) (hpl := hpl)
/-- a built-in class as a value -/
theorem pe_ty {n : String} {x : Str} (h : X.mg x = none) (hv : bootBuiltins x = some (.type n)) (hg : Gl X x := by rfl) (hn : x ≠ "__name__" := by decide) (hd : (x == ("__debug__" : Str)) = false := by decide) : PE X (.Name x pos) (tC (.ty n)) := pe_bltn hg h hv rfl hn hd
theorem pe_gi {n : Int} {x : Str} (h : ∃ u, X.mg x = some u ∧ RelV (.int n) u) (hg : Gl X x := by rfl) (hd : (x == ("__debug__" : Str)) = false := by decide) : PE X (.Name x pos) (tC (.int n)) := by
  obtain ⟨u, hm, r⟩ := h
  exact pe_glob hg hm r hd
theorem pe_gr {x : Str} {a : Addr} (h : X.mg x = some (.ref a)) (hg : Gl X x := by rfl) (hd : (x == ("__debug__" : Str)) = false := by decide) : PE X (.Name x pos) (tC (.ref a)) := pe_glob hg h rfl hd
end
section
variable {X : Cx} {i j k : Nat} {x y z : Str} {p1 p2 p3 pos : Pos} {n : Nat}
/-- a, b as a target -/
theorem pg_two (K : PySem.W.Frag) (i j : Nat) (hK : X.K = K) (hc : X.calm = true) (nd : X.N.Nodup) (hi : X.N[i]? = some x) (hj : X.N[j]? = some y) (hx : Loc X.env.scope x) (hy : Loc X.env.scope y)
    (fx : X.fn x = true ∨ X.env.scope.names.lookup x = some .local) (fy : X.fn y = true ∨ X.env.scope.names.lookup y = some .local) :
    PG X (.Tuple [.Name x p1, .Name y p2] n pos) (gTup K 2 (gCons (gName i) (gCons (gName j) gNil))) := hK ▸
  pg_tup hc (pgs_cons (pg_name nd hi hx fx) (pgs_cons (pg_name nd hj hy fy) pgs_nil))
/-- a, b, c as a target -/
theorem pg_three (K : PySem.W.Frag) (i j k : Nat) (hK : X.K = K) (hc : X.calm = true) (nd : X.N.Nodup) (hi : X.N[i]? = some x) (hj : X.N[j]? = some y) (hk : X.N[k]? = some z) (hx : Loc X.env.scope x) (hy : Loc X.env.scope y) (hz : Loc X.env.scope z)
    (fx : X.fn x = true ∨ X.env.scope.names.lookup x = some .local) (fy : X.fn y = true ∨ X.env.scope.names.lookup y = some .local) (fz : X.fn z = true ∨ X.env.scope.names.lookup z = some .local) :
    PG X (.Tuple [.Name x p1, .Name y p2, .Name z p3] n pos) (gTup K 3 (gCons (gName i) (gCons (gName j) (gCons (gName k) gNil)))) := hK ▸
  pg_tup hc (pgs_cons (pg_name nd hi hx fx) (pgs_cons (pg_name nd hj hy fy) (pgs_cons (pg_name nd hk hz fz) pgs_nil)))
end
theorem boot_int : bootBuiltins "int" = some (.type "int") := by decide +kernel
theorem boot_bool : bootBuiltins "bool" = some (.type "bool") := by decide +kernel
theorem boot_str : bootBuiltins "str" = some (.type "str") := by decide +kernel
theorem boot_list : bootBuiltins "list" = some (.type "list") := by decide +kernel
theorem boot_tuple : bootBuiltins "tuple" = some (.type "tuple") := by decide +kernel
theorem boot_abs : bootBuiltins "abs" = some (.builtin "abs") := by decide +kernel
theorem boot_max : bootBuiltins "max" = some (.builtin "max") := by decide +kernel
theorem boot_min : bootBuiltins "min" = some (.builtin "min") := by decide +kernel
theorem boot_set : bootBuiltins "set" = some (.type "set") := by decide +kernel
/-! ### kinds of values -/
/-- the kinds that the program asks for -/
inductive Kd where
  | non | bool | int | str | list | tuple | dict | obj
  deriving DecidableEq
def Kd.name : Kd → String
  | .non => "NoneType" | .bool => "bool" | .int => "int" | .str => "str" | .list => "list" | .tuple => "tuple" | .dict => "dict" | .obj => "object"
/-- isinstance's answer -/
def Kd.is (k c : Kd) : Bool := decide (k = c) || (decide (k = .bool) && decide (c = .int))
theorem kd_kit {K : PySem.W.Frag} (k c : Kd) (h : k ≠ .obj) (h2 : c ≠ .obj) : PySem.W.kitOne K (.type k.name) (.type c.name) = some (k.is c) := by
  refine kit_ty ?_
  cases k <;> cases c <;> first | decide +kernel | exact absurd rfl h | exact absurd rfl h2
/-- v is of the kind k -/
inductive Of (K : PySem.W.Frag) (H : Hp) : V → Kd → Prop where
  | non : Of K H .non .non
  | bl (b : Bool) : Of K H (.bl b) .bool
  | int (i : Int) : Of K H (.int i) .int
  | str (x : Str) : Of K H (.str x) .str
  | list {a : Addr} {xs : List V} (h : SqL K H a xs) : Of K H (.ref a) .list
  | tuple {a : Addr} {xs : List V} (h : SqT K H a xs) : Of K H (.ref a) .tuple
  | dict {a : Addr} (h : TyX K H (.ref a) (.type "dict")) : Of K H (.ref a) .dict
  | obj {a C : Addr} (h : TyX K H (.ref a) (.ref C)) (hk : ∀ c : Kd, c ≠ .obj → PySem.W.kitOne K (.ref C) (.type c.name) = some false) : Of K H (.ref a) .obj
theorem ty_sqL {K : PySem.W.Frag} {H : Hp} {a : Addr} {xs : List V} (h : SqL K H a xs) : TyX K H (.ref a) (.type "list") := by
  rcases h with (h | ⟨o, h⟩) | ⟨o, its, n, h1, h2, _⟩
  · exact .base (.lst h)
  · exact .base (.frz h)
  · exact .kList h1 h2
theorem ty_sqT {K : PySem.W.Frag} {H : Hp} {a : Addr} {xs : List V} (h : SqT K H a xs) : TyX K H (.ref a) (.type "tuple") := by
  rcases h with (h | ⟨o, h⟩) | ⟨o, its, n, h1, h2, _⟩
  · exact .base (.tup h)
  · exact .fTuple h
  · exact .kTuple h1 h2
/-- what isinstance(v, c) comes to -/
theorem isi_k {K : PySem.W.Frag} {H : Hp} {v : V} {k : Kd} (c : Kd) {Q : VK} (h : Of K H v k) (q : Q (.bl (k.is c)) H) (hc : c ≠ .obj := by decide) : rIsi K [v, .ty c.name] H Q := by
  cases h with
  | non => exact ⟨_, _, _, _, _, rfl, .ty _, .base .non, kd_kit .non c (by decide) hc, q⟩
  | bl b => exact ⟨_, _, _, _, _, rfl, .ty _, .base (.bl b), kd_kit .bool c (by decide) hc, q⟩
  | int b => exact ⟨_, _, _, _, _, rfl, .ty _, .base (.int b), kd_kit .int c (by decide) hc, q⟩
  | str b => exact ⟨_, _, _, _, _, rfl, .ty _, .base (.str b), kd_kit .str c (by decide) hc, q⟩
  | list b => exact ⟨_, _, _, _, _, rfl, .ty _, ty_sqL b, kd_kit .list c (by decide) hc, q⟩
  | tuple b => exact ⟨_, _, _, _, _, rfl, .ty _, ty_sqT b, kd_kit .tuple c (by decide) hc, q⟩
  | dict b => exact ⟨_, _, _, _, _, rfl, .ty _, b, kd_kit .dict c (by decide) hc, q⟩
  | obj b hk => 
    have e : Kd.is .obj c = false := by cases c <;> first | rfl | exact absurd rfl hc
    rw [e] at q
    exact ⟨_, _, _, _, _, rfl, .ty _, b, hk c hc, q⟩
theorem pe_imp {X : Cx} {e : Expr} {t t' : TE} (h : PE X e t) (i : ∀ σ H Q, t' σ H Q → t σ H Q) : PE X e t' := ⟨fun pins s σ H Q I q => h.run pins s σ H Q I (i σ H Q q)⟩
theorem callR_imp {X : Cx} {f : Value} {r r' : List V → Hp → VK → Prop} (h : CallR X f r) (i : ∀ vs H Q, r' vs H Q → r vs H Q) : CallR X f r' := fun pins s σ H xs us Q I rv q => h pins s σ H xs us Q I rv (i xs H Q q)
/-- isinstance(v, c): its kind -/
def rIs (K : PySem.W.Frag) (c : Kd) : List V → Hp → VK → Prop := fun xs H Q => ∃ (v : V) (k : Kd), xs = [v, .ty c.name] ∧ Of K H v k ∧ Q (.bl (k.is c)) H
theorem call_is {X : Cx} (c : Kd) (hc : c ≠ .obj := by decide) : CallR X (.builtin "isinstance") (rIs X.K c) := callR_imp call_isi fun vs H Q ⟨v, k, e, h, q⟩ => by
  subst e
  exact isi_k c h q hc
section
variable {X : Cx} {a : Expr} {ta : TE} {x : Str} {p p2 pos : Pos}
theorem pe_is (c : Kd) (h : X.mg "isinstance" = none) (ha : PE X a ta) (hm : X.mg x = none) (hv : bootBuiltins x = some (.type c.name)) (hc : c ≠ .obj := by decide) (hg2 : Gl X x := by rfl) (hn : x ≠ "__name__" := by decide) (hd : (x == ("__debug__" : Str)) = false := by decide) (hg : Gl X "isinstance" := by rfl)
    (he : starEach [a, .Name x p2] X.env = (false, eval a X.env) :: starEach [.Name x p2] X.env := by rfl) (hpl : (backTo pos (starEach [.Name x p2] X.env)).any (·.1) = false := by rfl)
    (he2 : starEach [.Name x p2] X.env = (false, eval (.Name x p2) X.env) :: starEach [] X.env := by rfl) :
    PE X (.Call (.Name "isinstance" p) [a, .Name x p2] [] pos) (tCB (rIs X.K c) (tCons ta (tCons (tC (.ty c.name)) tNil))) :=
  pe_callB (call_is c hc) hg h boot_isinstance (pa_cons ha (pa_cons (pe_ty (pos := p2) hm hv hg2 hn hd) pa_nil he2) he) (he := he) (hpl := hpl)
end
/-! ### data -/
theorem same_t {K : PySem.W.Frag} {H H' : Hp} {a : Addr} {xs : List V} (e : Same H H') (h : SqT K H a xs) : SqT K H' a xs := by
  rcases h with (h | ⟨o, h⟩) | h
  · exact .inl (.inl (e _ _ h))
  · exact .inl (.inr ⟨o, e _ _ h⟩)
  · exact .inr h
theorem same_new {H : Hp} {p : Addr} {o : HO} (h : H p = none) : Same H (upd H p o) := fun a u e => by
  rw [upd_ne (ne_of_none e h)]
  exact e
mutual
theorem dp_same {K : PySem.W.Frag} {H H' : Hp} (e : Same H H') : ∀ {v : V} {d : PyData}, Dp K H v d → Dp K H' v d
  | _, _, .non => .non
  | _, _, .bl b => .bl b
  | _, _, .int i => .int i
  | _, _, .str x => .str x
  | _, _, .lst h r => .lst (e.seq h) (dps_same e r)
  | _, _, .tup h r => .tup (same_t e h) (dps_same e r)
theorem dps_same {K : PySem.W.Frag} {H H' : Hp} (e : Same H H') : ∀ {vs : List V} {ds : List PyData}, DpAll K H vs ds → DpAll K H' vs ds
  | _, _, .nil => .nil
  | _, _, .cons h r => .cons (dp_same e h) (dps_same e r)
end
def kdOf : PyData → Kd
  | .bool _ => .bool
  | .int _ => .int
  | .str _ => .str
  | .list _ => .list
  | .tuple _ => .tuple
  | _ => .non
theorem dp_kd {K : PySem.W.Frag} {H : Hp} {v : V} {d : PyData} (h : Dp K H v d) : Of K H v (kdOf d) := by
  cases h with
  | non => exact .non
  | bl b => exact .bl b
  | int i => exact .int i
  | str x => exact .str x
  | lst h _ => exact .list h
  | tup h _ => exact .tuple h
end M

set_option Elab.async false
set_option linter.all false
set_option maxRecDepth 100000
set_option maxHeartbeats 2000000
namespace M
open PySem PySem.Spec PyProof.Rows L2

section
variable {P : Program} {w : World} {K : PySem.W.Frag} {mg : Str → Option Value} {base : Heap}
/-! ### pastless.checks -/
def spInteger (K : PySem.W.Frag) : Sp := fun vs H Q _ => ∃ (v : V) (k : Kd), vs = [v] ∧ Of K H v k ∧ Q (.bl (decide (k = .int))) H
theorem ca_is_integer (T : Txt w K mg) : Ca P w K mg base 1 "is_integer" (spInteger K) := by
  refine ca_of (N := ["value"]) (ps := ["value"]) T.f_is_integer T.g_is_integer ⟨rfl, rfl, rfl, by decide +kernel, rfl, by decide +kernel, by decide +kernel⟩ (fun _ _ _ _ _ _ us hl => match us, hl with | [_], _ => rfl)
    (fun vs H Q E h => by obtain ⟨v, k, rfl, hk, q⟩ := h; rfl) (fun cdv A outer s H vs Q E hr h => ?_)
  have nd : (["value"] : List Str).Nodup := by decide +kernel
  obtain ⟨v, k, rfl, hk, q⟩ := h
  refine ⟨_, pss_one (ps_ret (pe_and (pe_is .int T.b_isinstance (pv 0) T.b_int boot_int) (pe_one (pe_not (pe_is .bool T.b_isinstance (pv 0) T.b_bool boot_bool))))), ?_⟩
  refine ⟨_, rfl, _, _, rfl, hk, _, rfl, ?_⟩
  cases k <;> first | exact iteF q | exact iteT ⟨_, rfl, _, _, rfl, hk, _, rfl, q⟩
def spWithin : Sp := fun vs H Q _ => ∃ (i lo hi : Int), vs = [.int i, .int lo, .int hi] ∧ Q (.bl (decide (lo ≤ i) && decide (i ≤ hi))) H
theorem ca_is_within (T : Txt w K mg) : Ca P w K mg base 2 "is_within" (spWithin) := by
  refine ca_of (N := ["value", "least", "greatest"]) (ps := ["value", "least", "greatest"]) T.f_is_within T.g_is_within ⟨rfl, rfl, rfl, by decide +kernel, rfl, by decide +kernel, by decide +kernel⟩ (fun _ _ _ _ _ _ us hl => match us, hl with | [_, _, _], _ => rfl)
    (fun vs H Q E h => by obtain ⟨i, lo, hi, rfl, q⟩ := h; rfl) (fun cdv A outer s H vs Q E hr h => ?_)
  have nd : (["value", "least", "greatest"] : List Str).Nodup := by decide +kernel
  obtain ⟨i, lo, hi, rfl, q⟩ := h
  refine ⟨_, pss_one (ps_ret (pe_and (pe_ca (ca_is_integer T) hr (pa_cons (pv 0) pa_nil)) (pe_one (pe_chain op_le op_le (pv 1) (pv 0) (pv 2))))), ?_⟩
  refine ⟨_, rfl, _, _, rfl, .int i, _, rfl, iteT ?_⟩
  refine ⟨_, rfl, _, rfl, _, _, rfl, rfl, _, rfl, ?_⟩
  by_cases c : lo ≤ i
  · rw [decide_eq_true c] at q ⊢
    exact iteT ⟨_, rfl, _, _, rfl, rfl, q⟩
  · rw [decide_eq_false c] at q ⊢
    exact iteF q
/-- within its bounds -/
theorem within_t {i lo hi : Int} (h : lo ≤ i ∧ i ≤ hi) : (decide (lo ≤ i) && decide (i ≤ hi)) = true := by simp [h.1, h.2]
def spTuple (K : PySem.W.Frag) : Sp := fun vs H Q _ => ∃ (a : Addr) (xs : List V) (n : Int), vs = [.ref a, .int n] ∧ SqT K H a xs ∧ Q (.bl (decide ((xs.length : Int) = n))) H
theorem ca_is_tuple (T : Txt w K mg) : Ca P w K mg base 1 "is_tuple" (spTuple K) := by
  refine ca_of (N := ["value", "length"]) (ps := ["value", "length"]) T.f_is_tuple T.g_is_tuple ⟨rfl, rfl, rfl, by decide +kernel, rfl, by decide +kernel, by decide +kernel⟩ (fun _ _ _ _ _ _ us hl => match us, hl with | [_, _], _ => rfl)
    (fun vs H Q E h => by obtain ⟨a, xs, n, rfl, hs, q⟩ := h; rfl) (fun cdv A outer s H vs Q E hr h => ?_)
  have nd : (["value", "length"] : List Str).Nodup := by decide +kernel
  obtain ⟨a, xs, n, rfl, hs, q⟩ := h
  refine ⟨_, pss_one (ps_ret (pe_and (pe_is .tuple T.b_isinstance (pv 0) T.b_tuple boot_tuple) (pe_one (pe_cmpR op_eq (pe_callB call_len_seq (by rfl) T.b_len PySem.boot_len (pa_cons (pv 0) pa_nil)) (pv 1) (nomark _))))), ?_⟩
  refine ⟨_, rfl, _, _, rfl, .tuple hs, _, rfl, iteT ?_⟩
  refine ⟨_, rfl, _, _, rfl, .inr hs, _, rfl, rfl, ?_⟩
  rw [show (decide (V.int (xs.length : Int) = V.int n)) = decide ((xs.length : Int) = n) from by simp]
  exact q
/-- hs is a state of cells of the sizes ss -/
def StateOk (ss hs : List Int) : Prop := ss.length = hs.length ∧ ∀ (i : Nat) (s h : Int), ss[i]? = some s → hs[i]? = some h → 0 ≤ h ∧ h < s
theorem get_map {l : List Int} {i : Nat} {x : V} (h : (l.map V.int)[i]? = some x) : ∃ z, l[i]? = some z ∧ x = .int z := by
  rw [List.getElem?_map] at h
  cases e : l[i]? with
  | none => rw [e] at h; cases h
  | some z => rw [e] at h; exact ⟨z, rfl, (Option.some.inj h).symm⟩
def spState (K : PySem.W.Frag) : Sp := fun vs H Q _ => ∃ (a b : Addr) (ss hs : List Int), vs = [.ref a, .ref b] ∧ SqT K H a (ss.map .int) ∧ SqT K H b (hs.map .int) ∧ StateOk ss hs ∧ ∀ H', Same H H' → Q (.bl true) H'
end

end M

set_option Elab.async false
set_option linter.all false
set_option maxRecDepth 100000
set_option maxHeartbeats 2000000
namespace M
open PySem PySem.Spec PyProof.Rows L2

/-! ### what bodies, codes and vaults are -/
inductive Exp where
  | num (n : Int) | reg (r : Str) | op (s : Str) (a b : Exp)
def Exp.d : Exp → PyData
  | .num n => .int n
  | .reg r => .str r
  | .op s a b => .tuple [.str s, a.d, b.d]
inductive Row where
  | read (r : Str) (c : Int) | set (c : Int) (e : Exp) | swap (r : Str) (c : Int) (e f : Exp) | keep (r : Str) (e : Exp) | coin (r : Str)
  | iff (e : Exp) (a b : List Row) | times (e : Exp) (a : List Row) | ans (e : Exp)
mutual
def Row.d : Row → PyData
  | .read r c => .tuple [.str "read", .str r, .int c]
  | .set c e => .tuple [.str "set", .int c, e.d]
  | .swap r c e f => .tuple [.str "swap", .str r, .int c, e.d, f.d]
  | .keep r e => .tuple [.str "keep", .str r, e.d]
  | .coin r => .tuple [.str "coin", .str r]
  | .iff e a b => .tuple [.str "if", e.d, .tuple (rowsD a), .tuple (rowsD b)]
  | .times e a => .tuple [.str "times", e.d, .tuple (rowsD a)]
  | .ans e => .tuple [.str "answer", e.d]
def rowsD : List Row → List PyData
  | [] => []
  | r :: rs => r.d :: rowsD rs
end
/-- a row of a code -/
inductive FR where
  | row (r : Row) | unless (e : Exp) (p : Nat) | on (p : Nat) | rounds (e : Exp) | round (p : Nat) | hole
def FR.d : FR → PyData
  | .row r => r.d
  | .unless e p => .tuple [.str "unless", e.d, .int p]
  | .on p => .tuple [.str "on", .int p]
  | .rounds e => .tuple [.str "rounds", e.d]
  | .round p => .tuple [.str "round", .int p]
  | .hole => .tuple []
mutual
def putRow : Row → List FR → List FR
  | .iff e a b, c =>
    let c1 := putRows a (c ++ [FR.hole])
    let c2 := putRows b ((c1 ++ [FR.hole]).set c.length (FR.unless e (c1.length + 1)))
    c2.set c1.length (FR.on c2.length)
  | .times e a, c =>
    let c1 := putRows a (c ++ [FR.rounds e, FR.hole])
    (c1 ++ [FR.on (c.length + 1)]).set (c.length + 1) (FR.round (c1.length + 1))
  | .read r k, c => c ++ [.row (.read r k)]
  | .set k e, c => c ++ [.row (.set k e)]
  | .swap r k e f, c => c ++ [.row (.swap r k e f)]
  | .keep r e, c => c ++ [.row (.keep r e)]
  | .coin r, c => c ++ [.row (.coin r)]
  | .ans e, c => c ++ [.row (.ans e)]
def putRows : List Row → List FR → List FR
  | [], c => c
  | r :: rs, c => putRows rs (putRow r c)
end
def codeOf (rows : List Row) : List FR := putRows rows [] ++ [.row (.ans (.num 0))]
structure Vlt where
  cells : List (Int × Int)
  deeds : List (Str × Int × List Row)
def cellD (c : Int × Int) : PyData := .tuple [.int c.1, .int c.2]
def deedD (d : Str × Int × List Row) : PyData := .tuple [.str d.1, .int d.2.1, .tuple (rowsD d.2.2)]
def Vlt.calls (v : Vlt) : List (Str × Int) := v.deeds.flatMap fun d => (List.range d.2.1.toNat).map fun (j : Nat) => (d.1, (j : Int))
def codeD (rows : List Row) : PyData := .tuple ((codeOf rows).map FR.d)
/-- what the attributes of a vault hold -/
def vflds (a d c : Addr) (b : Bool) : List (Str × V) := putF "_coins" (.bl b) (putF "_codes" (.ref c) (putF "_deeds" (.ref d) (putF "_cells" (.ref a) [])))
theorem v1 : ¬ (("_cells" : Str) = "_deeds") := by decide +kernel
theorem v2 : ¬ (("_cells" : Str) = "_codes") := by decide +kernel
theorem v3 : ¬ (("_cells" : Str) = "_coins") := by decide +kernel
theorem v4 : ¬ (("_deeds" : Str) = "_codes") := by decide +kernel
theorem v5 : ¬ (("_deeds" : Str) = "_coins") := by decide +kernel
theorem v6 : ¬ (("_codes" : Str) = "_coins") := by decide +kernel
theorem vf_cells (a d c : Addr) (b : Bool) : (vflds a d c b).lookup ("_cells" : Str) = some (.ref a) := by
  unfold vflds
  rw [lookup_putF, if_neg v3, lookup_putF, if_neg v2, lookup_putF, if_neg v1, lookup_putF, if_pos rfl]
theorem vf_deeds (a d c : Addr) (b : Bool) : (vflds a d c b).lookup ("_deeds" : Str) = some (.ref d) := by
  unfold vflds
  rw [lookup_putF, if_neg v5, lookup_putF, if_neg v4, lookup_putF, if_pos rfl]
theorem vf_codes (a d c : Addr) (b : Bool) : (vflds a d c b).lookup ("_codes" : Str) = some (.ref c) := by
  unfold vflds
  rw [lookup_putF, if_neg v6, lookup_putF, if_pos rfl]
theorem vf_coins (a d c : Addr) (b : Bool) : (vflds a d c b).lookup ("_coins" : Str) = some (.bl b) := by
  unfold vflds
  rw [lookup_putF, if_pos rfl]
theorem vf_no (a d c : Addr) (b : Bool) {m : Str} (h1 : ¬ m = "_cells") (h2 : ¬ m = "_deeds") (h3 : ¬ m = "_codes") (h4 : ¬ m = "_coins") : (vflds a d c b).lookup m = none := by
  unfold vflds
  rw [lookup_putF, if_neg h4, lookup_putF, if_neg h3, lookup_putF, if_neg h2, lookup_putF, if_neg h1]
  rfl
/-- the codes by the names of the deeds -/
def CodesR (K : PySem.W.Frag) (H : Hp) : List (Key × V) → List (Str × Int × List Row) → Prop
  | [], [] => True
  | (k, v) :: r, d :: ds => k = Sum.inr d.1 ∧ Dp K H v (codeD d.2.2) ∧ CodesR K H r ds
  | _, _ => False
/-- a vault stands at p -/
structure VaultAt (K : PySem.W.Frag) (H : Hp) (p : Addr) (v : Vlt) : Prop where
  ob : ∃ (dx a d c : Addr) (b : Bool) (kvs : List (Key × V)), H p = some (.ins (He.ga K "Vault") dx (vflds a d c b)) ∧ Dp K H (.ref a) (.tuple (v.cells.map cellD)) ∧ Dp K H (.ref d) (.tuple (v.deeds.map deedD)) ∧ H c = some (.dK kvs) ∧ CodesR K H kvs v.deeds
/-- the bounds of a vault -/
structure VOk (v : Vlt) : Prop where
  c1 : v.cells.length ≤ 6
  d1 : v.deeds.length ≤ 8
  ch : ∀ d ∈ v.deeds, 1 ≤ d.2.1 ∧ d.2.1 ≤ 9
  nd : (v.deeds.map (·.1)).Nodup
theorem codes_same {K : PySem.W.Frag} {H H' : Hp} (e : Same H H') : ∀ {kvs : List (Key × V)} {ds : List (Str × Int × List Row)}, CodesR K H kvs ds → CodesR K H' kvs ds
  | [], [], _ => trivial
  | (_, _) :: _, _ :: _, h => ⟨h.1, dp_same e h.2.1, codes_same e h.2.2⟩
  | [], _ :: _, h => h.elim
  | _ :: _, [], h => h.elim
theorem VaultAt.same {K : PySem.W.Frag} {H H' : Hp} {p : Addr} {v : Vlt} (e : Same H H') (h : VaultAt K H p v) : VaultAt K H' p v := by
  obtain ⟨dx, a, d, c, b, kvs, h1, h2, h3, h4, h5⟩ := h.ob
  exact ⟨dx, a, d, c, b, kvs, e _ _ h1, dp_same e h2, dp_same e h3, e _ _ h4, codes_same e h5⟩
/-! ### data taken apart -/
section
variable {K : PySem.W.Frag} {H : Hp}
theorem dp_tup {v : V} {ds : List PyData} (h : Dp K H v (.tuple ds)) : ∃ (a : Addr) (xs : List V), v = .ref a ∧ SqT K H a xs ∧ DpAll K H xs ds := by
  cases h with
  | tup h r => exact ⟨_, _, rfl, h, r⟩
theorem dp_lst {v : V} {ds : List PyData} (h : Dp K H v (.list ds)) : ∃ (a : Addr) (xs : List V), v = .ref a ∧ SqL K H a xs ∧ DpAll K H xs ds := by
  cases h with
  | lst h r => exact ⟨_, _, rfl, h, r⟩
theorem dp_int {v : V} {i : Int} (h : Dp K H v (.int i)) : v = .int i := by
  cases h
  rfl
theorem dp_str {v : V} {i : Str} (h : Dp K H v (.str i)) : v = .str i := by
  cases h
  rfl
theorem dps_len : ∀ {vs : List V} {ds : List PyData}, DpAll K H vs ds → vs.length = ds.length
  | _, _, .nil => rfl
  | _, _, .cons _ r => congrArg (· + 1) (dps_len r)
theorem dps_get : ∀ {vs : List V} {ds : List PyData} {i : Nat} {v : V}, DpAll K H vs ds → vs[i]? = some v → ∃ d, ds[i]? = some d ∧ Dp K H v d
  | _, _, i, v, .nil, h => by simp at h
  | _, _, 0, v, .cons h r, e => by
    cases (Option.some.inj e)
    exact ⟨_, rfl, h⟩
  | _, _, i + 1, v, .cons h r, e => dps_get (i := i) r e
theorem dps_at : ∀ {vs : List V} {ds : List PyData} {i : Nat} {d : PyData}, DpAll K H vs ds → ds[i]? = some d → ∃ v, vs[i]? = some v ∧ Dp K H v d
  | _, _, i, v, .nil, h => by simp at h
  | _, _, 0, v, .cons h r, e => by
    cases (Option.some.inj e)
    exact ⟨_, rfl, h⟩
  | _, _, i + 1, v, .cons h r, e => dps_at (i := i) r e
theorem dps_app : ∀ {vs ws : List V} {ds es : List PyData}, DpAll K H vs ds → DpAll K H ws es → DpAll K H (vs ++ ws) (ds ++ es)
  | _, _, _, _, .nil, r => r
  | _, _, _, _, .cons h t, r => .cons h (dps_app t r)
theorem dps_set : ∀ {vs : List V} {ds : List PyData} {i : Nat} {v : V} {d : PyData}, DpAll K H vs ds → Dp K H v d → DpAll K H (vs.set i v) (ds.set i d)
  | _, _, _, _, _, .nil, _ => .nil
  | _, _, 0, _, _, .cons _ r, z => .cons z r
  | _, _, i + 1, _, _, .cons h r, z => .cons h (dps_set (i := i) r z)
theorem dp2 {v : V} {d e : PyData} (h : Dp K H v (.tuple [d, e])) : ∃ (a : Addr) (x y : V), v = .ref a ∧ SqT K H a [x, y] ∧ Dp K H x d ∧ Dp K H y e := by
  obtain ⟨a, xs, rfl, h, r⟩ := dp_tup h
  cases r with | cons h1 r => cases r with | cons h2 r => cases r with | nil => exact ⟨a, _, _, rfl, h, h1, h2⟩
theorem dp3 {v : V} {d e f : PyData} (h : Dp K H v (.tuple [d, e, f])) : ∃ (a : Addr) (x y z : V), v = .ref a ∧ SqT K H a [x, y, z] ∧ Dp K H x d ∧ Dp K H y e ∧ Dp K H z f := by
  obtain ⟨a, xs, rfl, h, r⟩ := dp_tup h
  cases r with | cons h1 r => cases r with | cons h2 r => cases r with | cons h3 r => cases r with | nil => exact ⟨a, _, _, _, rfl, h, h1, h2, h3⟩
theorem dps_ints : ∀ {vs : List V} {is : List Int}, DpAll K H vs (is.map PyData.int) → vs = is.map V.int
  | _, [], .nil => rfl
  | _, i :: is, .cons h r => by
    rw [dp_int h, dps_ints r]
    rfl
theorem ints_dps : ∀ {is : List Int}, DpAll K H (is.map V.int) (is.map PyData.int)
  | [] => .nil
  | i :: is => .cons (.int i) ints_dps
end
/-! ### what a list that grows leaves as it was -/
/-- all but what stands at D is as it was -/
def But (D : Addr) (H H' : Hp) : Prop := ∀ b o, b ≠ D → H b = some o → H' b = some o
theorem But.upd {D : Addr} {H : Hp} {o : HO} : But D H (upd H D o) := fun b u hb e => by
  rw [upd_ne hb]
  exact e
theorem same_but {D : Addr} {H H' : Hp} (s : Same H H') : But D H H' := fun b o _ e => s b o e
theorem But.trans {D : Addr} {H H1 H2 : Hp} (s : But D H H1) (t : But D H1 H2) : But D H H2 := fun b o hb e => t b o hb (s b o hb e)
/-- no list within -/
inductive NoL : PyData → Prop where
  | non : NoL .none
  | bool (b : Bool) : NoL (.bool b)
  | int (i : Int) : NoL (.int i)
  | str (x : Str) : NoL (.str x)
  | tup {ds : List PyData} (h : ∀ d ∈ ds, NoL d) : NoL (.tuple ds)
/-- what stands at D may change -/
def Ch (H : Hp) (D : Addr) : Prop := (∀ xs, H D ≠ some (.tup xs)) ∧ ∀ o u, H D ≠ some (.frz o u)
theorem Ch.lst {H : Hp} {D : Addr} {l : List V} (h : H D = some (.lst l)) : Ch H D := ⟨fun _ e => (by rw [h] at e; cases e), fun _ _ e => (by rw [h] at e; cases e)⟩
theorem Ch.dK {H : Hp} {D : Addr} {l : List (Key × V)} (h : H D = some (.dK l)) : Ch H D := ⟨fun _ e => (by rw [h] at e; cases e), fun _ _ e => (by rw [h] at e; cases e)⟩
theorem Ch.ins {H : Hp} {D C dx : Addr} {l : List (Str × V)} (h : H D = some (.ins C dx l)) : Ch H D := ⟨fun _ e => (by rw [h] at e; cases e), fun _ _ e => (by rw [h] at e; cases e)⟩
theorem Ch.new {H : Hp} {D : Addr} (h : H D = none) : Ch H D := ⟨fun _ e => (by rw [h] at e; cases e), fun _ _ e => (by rw [h] at e; cases e)⟩
section
variable {K : PySem.W.Frag} {H H' : Hp} {D : Addr}
theorem sqT_but (hD : Ch H D) (s : But D H H') {a : Addr} {xs : List V} (h : SqT K H a xs) : SqT K H' a xs := by
  rcases h with (h | ⟨o, h⟩) | h
  · exact .inl (.inl (s _ _ (fun e => hD.1 _ (e ▸ h)) h))
  · exact .inl (.inr ⟨o, s _ _ (fun e => hD.2 _ _ (e ▸ h)) h⟩)
  · exact .inr h
mutual
theorem dp_but (hD : Ch H D) (s : But D H H') : ∀ {v : V} {d : PyData}, Dp K H v d → NoL d → Dp K H' v d
  | _, _, .non, _ => .non
  | _, _, .bl b, _ => .bl b
  | _, _, .int i, _ => .int i
  | _, _, .str x, _ => .str x
  | _, _, .lst _ _, n => nomatch n
  | _, _, .tup h r, n => .tup (sqT_but hD s h) (dps_but hD s r (by cases n with | tup h => exact h))
theorem dps_but (hD : Ch H D) (s : But D H H') : ∀ {vs : List V} {ds : List PyData}, DpAll K H vs ds → (∀ d ∈ ds, NoL d) → DpAll K H' vs ds
  | _, _, .nil, _ => .nil
  | _, _, .cons h r, n => .cons (dp_but hD s h (n _ List.mem_cons_self)) (dps_but hD s r fun d hd => n d (List.mem_cons_of_mem _ hd))
end
end
/-! ### comprehensions and loops that leave all that was as it was -/
section
variable {J : It} {n : Nat} {G : Hp → Prop} {Y : Nat → Hp → V → Hp → Prop}
/-- a list comprehension: its i-th item is R i -/
theorem lc_out (w : Walk J n G Y) {g : TG} {te : TE} {vs : List Nat} {σ : L2.St} {H1 : Hp} {D : Addr} {Qd : Hp → Prop} (hD : H1 D = none) (hn : n ≤ 100000) (R : Nat → V → Hp → Prop) (hR : ∀ i y H H', Ch H D → But D H H' → R i y H → R i y H')
    (hG : ∀ H, Same H1 H → G H)
    (hs : ∀ (i : Nat) (x : V) (H H' : Hp) (N : VK) (F : Hp → Prop), i < n → Same H1 H → Y i H x H' → (∀ y H4, Same H H4 → R i y H4 → N y H4) → g x (wipe σ vs) H' fun σ2 H2 => wipe σ2 vs = wipe σ vs ∧ if true = true then te σ2 H2 N else F H2)
    (hd : ∀ H ys, Same H1 H → H D = some (.lst ys) → ys.length = n → (∀ i y, ys[i]? = some y → R i y H) → Qd H) :
    ∃ W : Nat → Nat → Hp → Prop, (∃ m, W 0 m (upd H1 D (.lst []))) ∧ ∀ i m H, W i m H →
      (J.stop i H ∧ Qd H) ∨ (J.go i H ∧ ∃ Nx : Hp → Prop, (∀ H', Nx H' → ∃ m', m' < m ∧ W (i + 1) m' H') ∧ ∀ x H', J.yld i H x H' → g x (wipe σ vs) H' fun σ2 H2 => wipe σ2 vs = wipe σ vs ∧ tYes σ2 H2 fun b H3 =>
        if b = true then te σ2 H3 fun y H4 => ∃ acc, H4 D = some (.lst acc) ∧ acc.length < sizeLine ∧ Nx (upd H4 D (.lst (acc ++ [y]))) else Nx H3) := by
  let Pv : Nat → Hp → Prop := fun i H => ∃ ys, Same H1 H ∧ H D = some (.lst ys) ∧ ys.length = i ∧ ∀ j y, ys[j]? = some y → R j y H
  refine lc_it w Pv ⟨[], same_new hD, upd_same, rfl, fun j y e => by simp at e⟩ (fun i H _ ⟨_, s, _⟩ => hG H s) (fun i x H H' hi ⟨ys, s, eD, el, hr⟩ y => ?_) (fun H ⟨ys, s, eD, el, hr⟩ => hd H ys s eD el hr)
  refine hs i x H H' (fun y H4 => ∃ acc, H4 D = some (.lst acc) ∧ acc.length < sizeLine ∧ Pv (i + 1) (upd H4 D (.lst (acc ++ [y])))) (fun H3 => Pv (i + 1) H3) hi s y fun z H4 s4 rz => ⟨ys, s4 _ _ eD, by rw [sizeLine_eq]; omega, ys ++ [z], fun b o e => ?_, upd_same, by simp [el], fun j u e => ?_⟩
  · rw [upd_ne (ne_of_none e hD)]
    exact s4 b o (s b o e)
  · have bt : But D H (upd H4 D (.lst (ys ++ [z]))) := (same_but s4 (D := D)).trans But.upd
    by_cases hj : j < ys.length
    · rw [List.getElem?_append_left hj] at e
      exact hR j u H _ (.lst eD) bt (hr j u e)
    · rw [List.getElem?_append_right (by omega)] at e
      have e0 : j - ys.length = 0 := by
        cases q : j - ys.length with
        | zero => rfl
        | succ m => rw [q] at e; simp at e
      rw [e0] at e
      cases (Option.some.inj e)
      have ej : j = i := by omega
      subst ej
      exact hR _ _ H4 _ (.lst (s4 _ _ eD)) But.upd rz
end

end M

set_option Elab.async false
set_option linter.all false
set_option maxRecDepth 100000
set_option maxHeartbeats 2000000
namespace M
open PySem PySem.Spec PyProof.Rows L2

theorem map_of {α : Type} {cs : List α} {f : α → V} {ys : List V} (hl : ys.length = cs.length) (h : ∀ (i : Nat) (y : V), ys[i]? = some y → ∃ c, cs[i]? = some c ∧ y = f c) : ys = cs.map f := by
  refine List.ext_getElem? fun i => ?_
  rw [List.getElem?_map]
  cases e : ys[i]? with
  | some y =>
    obtain ⟨c, hc, rfl⟩ := h i y e
    rw [hc]
    rfl
  | none =>
    have q : cs[i]? = none := by
      rw [List.getElem?_eq_none_iff] at e ⊢
      omega
    rw [q]
    rfl
theorem get_mapA {α β : Type} {l : List α} {f : α → β} {i : Nat} {x : β} (h : (l.map f)[i]? = some x) : ∃ z, l[i]? = some z ∧ x = f z := by
  rw [List.getElem?_map] at h
  cases e : l[i]? with
  | none => rw [e] at h; cases h
  | some z => rw [e] at h; exact ⟨z, rfl, (Option.some.inj h).symm⟩
section
variable {P : Program} {w : World} {K : PySem.W.Frag} {mg : Str → Option Value} {base : Heap}
/-! ### pastless.vaults: what a vault tells -/
def spSizes (K : PySem.W.Frag) (f : Int × Int → Int) : Sp := fun vs H Q _ => ∃ (p : Addr) (v : Vlt), vs = [.ref p] ∧ VaultAt K H p v ∧ v.cells.length ≤ 6 ∧ ∀ a H', Same H H' → H' a = some (.tup ((v.cells.map f).map V.int)) → Q (.ref a) H'
end

end M

set_option Elab.async false
set_option linter.all false
set_option maxRecDepth 100000
set_option maxHeartbeats 2000000
namespace M
open PySem PySem.Spec PyProof.Rows L2

/-! ### any walk: Pv by the turn and the heap -/
section
variable {J : It} {n : Nat} {G : Hp → Prop} {Y : Nat → Hp → V → Hp → Prop}
theorem it_any (w : Walk J n G Y) {B : (Hp → Prop) → V → Hp → Prop} {H1 : Hp} {Qd : Hp → Prop} (Pv : Nat → Hp → Prop) (h0 : Pv 0 H1) (hG : ∀ i H, i ≤ n → Pv i H → G H) (hs : ∀ i x H H', i < n → Pv i H → Y i H x H' → B (Pv (i + 1)) x H')
    (hd : ∀ H, Pv n H → Qd H) : ∃ W : Nat → Nat → Hp → Prop, (∃ m, W 0 m H1) ∧ ∀ i m H, W i m H → (J.stop i H ∧ Qd H) ∨ (J.go i H ∧ ∃ Nx : Hp → Prop, (∀ H', Nx H' → ∃ m', m' < m ∧ W (i + 1) m' H') ∧ ∀ x H', J.yld i H x H' → B Nx x H') := by
  refine ⟨fun i m H => m + i = n ∧ Pv i H, ⟨n, rfl, h0⟩, fun i m H ⟨hm, hp⟩ => ?_⟩
  have hg := hG i H (by omega) hp
  rcases Nat.lt_or_ge i n with hi | hi
  · exact .inr ⟨w.goes i H hi hg, Pv (i + 1), fun H' hp' => ⟨m - 1, by omega, by omega, hp'⟩, fun x H' y => hs i x H H' hi hp (w.yields i H x H' hi hg y)⟩
  · obtain rfl : i = n := by omega
    exact .inl ⟨w.stops H hg, hd H hp⟩
end
/-- the tuples of calls -/
def TupsAt (H : Hp) : List V → List (Str × Int) → Prop
  | [], [] => True
  | y :: ys, c :: cs => (∃ t, y = .ref t ∧ H t = some (.tup [.str c.1, .int c.2])) ∧ TupsAt H ys cs
  | _, _ => False
theorem tups_but {D : Addr} {H H' : Hp} (hD : Ch H D) (s : But D H H') : ∀ {ys : List V} {cs : List (Str × Int)}, TupsAt H ys cs → TupsAt H' ys cs
  | [], [], _ => trivial
  | _ :: _, _ :: _, ⟨⟨t, e, h⟩, r⟩ => ⟨⟨t, e, s t _ (fun z => hD.1 _ (z ▸ h)) h⟩, tups_but hD s r⟩
  | [], _ :: _, h => h.elim
  | _ :: _, [], h => h.elim
theorem tups_same {H H' : Hp} (s : Same H H') : ∀ {ys : List V} {cs : List (Str × Int)}, TupsAt H ys cs → TupsAt H' ys cs
  | [], [], _ => trivial
  | _ :: _, _ :: _, ⟨⟨t, e, h⟩, r⟩ => ⟨⟨t, e, s t _ h⟩, tups_same s r⟩
  | [], _ :: _, h => h.elim
  | _ :: _, [], h => h.elim
theorem tups_len {H : Hp} : ∀ {ys : List V} {cs : List (Str × Int)}, TupsAt H ys cs → ys.length = cs.length
  | [], [], _ => rfl
  | _ :: _, _ :: _, ⟨_, r⟩ => congrArg (· + 1) (tups_len r)
  | [], _ :: _, h => h.elim
  | _ :: _, [], h => h.elim
theorem tups_snoc {H : Hp} {t : Addr} {c : Str × Int} (ht : H t = some (.tup [.str c.1, .int c.2])) : ∀ {ys : List V} {cs : List (Str × Int)}, TupsAt H ys cs → TupsAt H (ys ++ [.ref t]) (cs ++ [c])
  | [], [], _ => ⟨⟨t, rfl, ht⟩, trivial⟩
  | _ :: _, _ :: _, ⟨h, r⟩ => ⟨h, tups_snoc ht r⟩
  | [], _ :: _, h => h.elim
  | _ :: _, [], h => h.elim
theorem tups_get {H : Hp} : ∀ {ys : List V} {cs : List (Str × Int)} {i : Nat} {y : V}, TupsAt H ys cs → ys[i]? = some y → ∃ c t, cs[i]? = some c ∧ y = .ref t ∧ H t = some (.tup [.str c.1, .int c.2])
  | [], [], i, y, _, e => by simp at e
  | _ :: _, c :: _, 0, y, ⟨⟨t, e, h⟩, r⟩, z => by
    cases (Option.some.inj z)
    exact ⟨c, t, rfl, e, h⟩
  | _ :: _, _ :: _, i + 1, y, ⟨h, r⟩, z => tups_get (i := i) r z
  | [], _ :: _, _, _, h, _ => h.elim
  | _ :: _, [], _, _, h, _ => h.elim
theorem take_more {α : Type} {l : List α} {i : Nat} {x : α} (h : l[i]? = some x) : l.take (i + 1) = l.take i ++ [x] := by
  rw [List.take_add_one, h]
  rfl
theorem range_more (j : Nat) : List.range (j + 1) = List.range j ++ [j] := List.range_succ
/-- all but the dict of a name -/
theorem codes_get {K : PySem.W.Frag} {H : Hp} : ∀ {kvs : List (Key × V)} {ds : List (Str × Int × List Row)} {d : Str × Int × List Row}, CodesR K H kvs ds → (ds.map (·.1)).Nodup → d ∈ ds → ∃ v, valV kvs (Sum.inr d.1 : Key) = some v ∧ Dp K H v (codeD d.2.2)
  | [], [], d, _, _, h => by cases h
  | (k, v) :: r, e :: ds, d, h, n, hd => by
    obtain ⟨rfl, hv, hr⟩ := h
    rw [List.map_cons, List.nodup_cons] at n
    by_cases q : e.1 = d.1
    · have : d = e := by
        rcases List.mem_cons.mp hd with z | z
        · exact z
        · exact absurd (q ▸ List.mem_map.mpr ⟨d, z, rfl⟩) n.1
      subst this
      refine ⟨v, ?_, hv⟩
      unfold valV
      rw [List.find?_cons_of_pos (by simp)]
      rfl
    · have hd' : d ∈ ds := by
        rcases List.mem_cons.mp hd with z | z
        · exact absurd (by rw [z]) q
        · exact z
      obtain ⟨u, hu, hw⟩ := codes_get hr n.2 hd'
      refine ⟨u, ?_, hw⟩
      unfold valV at hu ⊢
      rw [List.find?_cons_of_neg (by simp [q])]
      exact hu
  | [], _ :: _, _, h, _, _ => h.elim
  | _ :: _, [], _, h, _, _ => h.elim
/-! ### no lists within -/
theorem Exp.noL : ∀ e : Exp, NoL e.d
  | .num n => .int n
  | .reg r => .str r
  | .op s a b => .tup fun d h => by
    rcases List.mem_cons.mp h with rfl | h
    · exact .str s
    rcases List.mem_cons.mp h with rfl | h
    · exact a.noL
    rcases List.mem_cons.mp h with rfl | h
    · exact b.noL
    cases h
mutual
theorem Row.noL : ∀ r : Row, NoL r.d
  | .read r c => .tup (by intro d h; simp at h; rcases h with rfl | rfl | rfl <;> constructor)
  | .set c e => .tup (by intro d h; simp at h; rcases h with rfl | rfl | rfl <;> first | exact e.noL | constructor)
  | .swap r c e f => .tup (by intro d h; simp at h; rcases h with rfl | rfl | rfl | rfl | rfl <;> first | exact e.noL | exact f.noL | constructor)
  | .keep r e => .tup (by intro d h; simp at h; rcases h with rfl | rfl | rfl <;> first | exact e.noL | constructor)
  | .coin r => .tup (by intro d h; simp at h; rcases h with rfl | rfl <;> constructor)
  | .iff e a b => .tup (by intro d h; simp at h; rcases h with rfl | rfl | rfl | rfl <;> first | exact e.noL | exact .tup (rows_noL a) | exact .tup (rows_noL b) | constructor)
  | .times e a => .tup (by intro d h; simp at h; rcases h with rfl | rfl | rfl <;> first | exact e.noL | exact .tup (rows_noL a) | constructor)
  | .ans e => .tup (by intro d h; simp at h; rcases h with rfl | rfl <;> first | exact e.noL | constructor)
theorem rows_noL : ∀ rs : List Row, ∀ d ∈ rowsD rs, NoL d
  | [], d, h => by cases h
  | r :: rs, d, h => by
    rcases List.mem_cons.mp h with rfl | h
    · exact r.noL
    · exact rows_noL rs d h
end
theorem FR.noL : ∀ r : FR, NoL r.d
  | .row r => r.noL
  | .unless e p => .tup (by intro d h; simp at h; rcases h with rfl | rfl | rfl <;> first | exact e.noL | constructor)
  | .on p => .tup (by intro d h; simp at h; rcases h with rfl | rfl <;> constructor)
  | .rounds e => .tup (by intro d h; simp at h; rcases h with rfl | rfl <;> first | exact e.noL | constructor)
  | .round p => .tup (by intro d h; simp at h; rcases h with rfl | rfl <;> constructor)
  | .hole => .tup (by intro d h; cases h)
theorem code_noL (rs : List Row) : NoL (codeD rs) := .tup fun d h => by
  obtain ⟨r, _, rfl⟩ := List.mem_map.mp h
  exact r.noL
section
variable {P : Program} {w : World} {K : PySem.W.Frag} {mg : Str → Option Value} {base : Heap}
def spCalls (K : PySem.W.Frag) : Sp := fun vs H Q _ => ∃ (p : Addr) (v : Vlt), vs = [.ref p] ∧ VaultAt K H p v ∧ VOk v ∧ ∀ a ys H', Same H H' → H' a = some (.lst ys) → TupsAt H' ys v.calls → Q (.ref a) H'
end

end M

set_option Elab.async false
set_option linter.all false
set_option maxRecDepth 100000
set_option maxHeartbeats 2000000
namespace M
open PySem PySem.Spec PyProof.Rows L2

/-- the def x of the module, its parameters told -/
structure Cf (P : Program) (w : World) (K : PySem.W.Frag) (mg : Str → Option Value) (base : Heap) (k : Nat) (x : Str) (ps : List Str) (sp : Sp) : Prop where
  ex : ∃ (fd : FuncData) (oc : Value) (od : Option Addr) (osl : Array (Option Value)), K.lookup (He.ga K x) = some ⟨oc, od, .func fd, osl⟩ ∧ FnOk P w K mg base CX0 k (He.ga K x) fd ps sp ∧ PySem.W.keepIn K (.ref (He.ga K x)) = true ∧ Binds K fd ps []
  g : mg x = some (.ref (He.ga K x))
theorem cf_of {P : Program} {w : World} {K : PySem.W.Frag} {mg : Str → Option Value} {base : Heap} {x : Str} {st : Stmt} {N ps : List Str} {k : Nat} {sp : Sp} (F : ∃ fd, FunD K x x (defArgs st) (defBody st) (defScope st) [] [] (He.fAd K (x, none)) fd) (g : mg x = some (.ref (He.ga K x))) (S : FnScope N ps (defScope st)) (hb : BindsH x x st ps)
    (len : ∀ vs H Q E, sp vs H Q E → vs.length = ps.length) (hbody : BodyH P w K mg base x st N k (He.fAd K (x, none)) sp) : Cf P w K mg base (k + 1) x ps sp := by
  obtain ⟨fd, F⟩ := F
  obtain ⟨oc, od, dV, kV, doc, pm, an, cdv, ct, osl, e, lk, _⟩ := F.ex
  exact ⟨⟨fd, oc, od, osl, lk, fn_d F S len hbody, F.kp, F.bindsN hb⟩, g⟩
theorem Cf.mono {P : Program} {w : World} {K : PySem.W.Frag} {mg : Str → Option Value} {base : Heap} {x : Str} {ps : List Str} {j k : Nat} {sp : Sp} (c : Cf P w K mg base j x ps sp) (h : j ≤ k) : Cf P w K mg base k x ps sp := by
  obtain ⟨fd, oc, od, osl, lk, F, r⟩ := c.ex
  exact ⟨⟨fd, oc, od, osl, lk, F.mono h, r⟩, c.g⟩
theorem ne_ho {H : Hp} {a b : Addr} {o p : HO} (ha : H a = some o) (hb : H b = some p) (n : o ≠ p) : a ≠ b := fun e => n (by rw [e, hb] at ha; exact (Option.some.inj ha).symm)
theorem at0 {a : V} {xs : List V} : atI (a :: xs) 0 = some a := atI_nat (xs := a :: xs) (j := 0) rfl
theorem at1 {a b : V} {xs : List V} : atI (a :: b :: xs) 1 = some b := atI_nat (xs := a :: b :: xs) (j := 1) rfl
theorem at2 {a b c : V} {xs : List V} : atI (a :: b :: c :: xs) 2 = some c := atI_nat (xs := a :: b :: c :: xs) (j := 2) rfl
theorem at3 {a b c d : V} {xs : List V} : atI (a :: b :: c :: d :: xs) 3 = some d := atI_nat (xs := a :: b :: c :: d :: xs) (j := 3) rfl
def NameOk (s : Str) : Prop := 1 ≤ s.length ∧ s.length ≤ 8 ∧ ∀ c ∈ s.cps.toList, 97 ≤ c ∧ c ≤ 122
theorem sign_le {a c : Nat} (h : a ≤ c) : (!decide (([c] : List Nat) < [a])) = true := by
  have : ¬ (([c] : List Nat) < [a]) := by
    rw [List.cons_lt_cons_iff]
    rintro (h1 | ⟨_, h2⟩)
    · omega
    · exact absurd h2 (by simp)
  rw [decide_eq_false this]
  rfl
theorem if_true_of {c : Bool} {A B : Prop} (hc : c = true) (h : A) : if c = true then A else B := by
  rw [if_pos hc]
  exact h
theorem if_not_of {c : Bool} {A B : Prop} (hc : c = true) (h : B) : if (!c) = true then A else B := by
  rw [hc]
  exact iteF h
theorem getD_mem {l : List Int} {i : Nat} {d : Int} (h : i < l.length) : l.getD i d ∈ l := by
  rw [List.getD_eq_getElem?_getD, List.getElem?_eq_getElem h]
  exact List.getElem_mem h
theorem atK {l : List Int} {k : Int} {n : Nat} (h0 : 0 ≤ k) (hk : k < n) (hn : l.length = n) : atI (l.map V.int) k = some (.int (l.getD k.toNat 0)) := by
  have e : ((k.toNat : Nat) : Int) = k := Int.toNat_of_nonneg h0
  have hl : k.toNat < l.length := by omega
  have := atI_nat (xs := l.map V.int) (j := k.toNat) (v := .int (l.getD k.toNat 0)) (by
    rw [List.getElem?_map, List.getD_eq_getElem?_getD, List.getElem?_eq_getElem hl]
    rfl)
  rw [e] at this
  exact this
theorem none_of {H H' : Hp} {x : Addr} (s : Same H H') (h : H' x = none) : H x = none := by
  cases e : H x with
  | none => rfl
  | some o => rw [s _ _ e] at h; cases h
theorem let26 {i : Int} (h : 0 ≤ i ∧ i < 26) : atI ("abcdefghijklmnopqrstuvwxyz" : Str).cps.toList i = some (97 + i.toNat) := by
  obtain ⟨k, rfl⟩ : ∃ k : _root_.Fin 26, i = ((k.val : Nat) : Int) := ⟨⟨i.toNat, by omega⟩, by show i = ((i.toNat : Nat) : Int); omega⟩
  revert k
  decide +kernel
theorem joinL_nil : ∀ ps : List (List Nat), TL.joinL [] ps = ps.flatten
  | [] => rfl
  | [p] => by show p = p ++ []; rw [List.append_nil]
  | p :: q :: r => by
    show p ++ ([] ++ TL.joinL [] (q :: r)) = p ++ (q :: r).flatten
    rw [List.nil_append, joinL_nil (q :: r)]
theorem join_letters {ss : List Str} (h : ∀ s ∈ ss, ∃ c, s = ⟨#[c]⟩ ∧ 97 ≤ c ∧ c ≤ 122) : (Txt.join ("" : Str) ss).cps.toList.length = ss.length ∧ ∀ c ∈ (Txt.join ("" : Str) ss).cps.toList, 97 ≤ c ∧ c ≤ 122 := by
  have e : (Txt.join ("" : Str) ss).cps.toList = (ss.map TL.tl).flatten := by
    have := TL.tl_join ("" : Str) ss
    rw [← TL.join_eq] at this
    rw [← joinL_nil]
    exact this
  rw [e]
  clear e
  induction ss with
  | nil => exact ⟨rfl, fun c hc => by cases hc⟩
  | cons s r ih =>
    obtain ⟨c, rfl, h1, h2⟩ := h s List.mem_cons_self
    obtain ⟨i1, i2⟩ := ih fun x hx => h x (List.mem_cons_of_mem _ hx)
    have et : TL.tl (⟨#[c]⟩ : Str) = [c] := rfl
    rw [List.map_cons, List.flatten_cons, et]
    refine ⟨by rw [List.length_append, i1]; simp; omega, fun d hd => ?_⟩
    rcases List.mem_append.mp hd with hd | hd
    · rw [List.mem_singleton.mp hd]
      exact ⟨h1, h2⟩
    · exact i2 d hd
theorem str_len (s : Str) : s.length = s.cps.toList.length := by rw [Array.length_toList]; rfl
theorem boot_all : bootBuiltins "all" = some (.builtin "all") := by decide +kernel
section
variable {P : Program} {w : World} {K : PySem.W.Frag} {mg : Str → Option Value} {base : Heap}
def spName : Sp := fun vs H Q _ => ∃ (s : Str), vs = [.str s] ∧ NameOk s ∧ Q (.bl true) H
theorem ca_is_name (T : Txt w K mg) : Ca P w K mg base 1 "is_name" (spName) := by
  refine ca_of (N := ["value", "letter"]) (ps := ["value"]) T.f_is_name T.g_is_name ⟨rfl, rfl, rfl, by decide +kernel, rfl, by decide +kernel, by decide +kernel⟩ (fun _ _ _ _ _ _ us hl => match us, hl with | [_], _ => rfl)
    (fun vs H Q E h => by obtain ⟨s, rfl, ok, q⟩ := h; rfl) (fun cdv A outer s H vs Q E hr h => ?_)
  have nd : (["value", "letter"] : List Str).Nodup := by decide +kernel
  obtain ⟨s, rfl, ok, q⟩ := h
  refine ⟨_, (pss_cons (ps_if (PW.pt (pw_or (pt_not (pt_val (pe_is .str T.b_isinstance (pv 0) T.b_str boot_str))) (pw_or1 (pt_not (pt_chain op_le op_le pe_int (pe_callB call_len_str (by rfl) T.b_len PySem.boot_len (pa_cons (pv 0) pa_nil)) (pe_gi T.i_LONGEST_NAME)))))) (pss_one (ps_ret pe_bl)) pss_nil)
      (pss_cons (ps_for PassesOwn.never rfl (pi_str (pv 0)) (pg_name (i := 1) nd rfl (.inl rfl)) (pss_one (ps_if (pt_not (pt_chain op_le_str op_le_str pe_str (pv 1) pe_str)) (pss_one (ps_ret pe_bl)) pss_nil)))
      (pss_one (ps_ret pe_bl)))), ?_⟩
  refine ⟨_, rfl, _, _, rfl, .str s, _, rfl, iteF ?_⟩
  have l8 := ok.2.1
  refine ⟨_, rfl, _, rfl, by rw [sizeLine_eq]; omega, _, _, rfl, rfl, _, rfl, ?_⟩
  rw [decide_eq_true (show (1 : Int) ≤ (s.length : Int) from by have := ok.1; omega)]
  refine iteT ⟨_, _, rfl, rfl, _, rfl, ?_⟩
  rw [decide_eq_true (show (s.length : Int) ≤ 8 from by omega)]
  refine iteF ⟨_, rfl, _, rfl, for_it (n := s.cps.size) walk_str (fun i σ' H' => ∃ x, σ' = [some (.str s), x] ∧ H' = H) ⟨none, rfl, rfl⟩ (fun _ _ _ _ _ => trivial) ?_ ?_⟩
  · rintro i x σ' H' H2 hi ⟨_, rfl, rfl⟩ ⟨rfl, c, hc, rfl⟩
    have hm : c ∈ s.cps.toList := by
      rw [← Array.getElem?_toList] at hc
      exact List.mem_of_getElem? hc
    have b := ok.2.2 c hm
    refine ⟨_, rfl, _, _, rfl, rfl, _, rfl, ?_⟩
    refine (if_true_of (sign_le b.1) ?_)
    refine ⟨_, _, rfl, rfl, _, rfl, ?_⟩
    refine if_not_of (sign_le b.2) ⟨_, rfl, rfl⟩
  · rintro σ' H' ⟨_, rfl, rfl⟩
    exact q
end

end M

set_option Elab.async false
set_option linter.all false
set_option maxRecDepth 100000
set_option maxHeartbeats 2000000
namespace M
open PySem PySem.Spec PyProof.Rows L2

/-! ### what the law draws -/
def PoolAt (H : Hp) (a : Addr) : Prop := ∃ g s n : Int, H a = some (.lst [.int g, .int s, .int n]) ∧ 0 ≤ g ∧ (0 ≤ s ∧ s < 1099511627776) ∧ 0 ≤ n
section
variable {P : Program} {w : World} {K : PySem.W.Frag} {mg : Str → Option Value} {base : Heap}
def spPool (K : PySem.W.Frag) : Sp := fun vs H Q _ => ∃ (a : Addr) (ns : List Int) (k : Int), vs = [.ref a, .int k] ∧ SqL K H a (ns.map .int) ∧ ns.length ≤ 63 ∧ (0 ≤ k ∧ k ≤ 63) ∧ ∀ (p : Addr) (H' : Hp), Same H H' → H p = none → PoolAt H' p → Q (.ref p) H'
theorem ca_l_pool (T : Txt w K mg) : Ca P w K mg base 1 "_law_pool" (spPool K) := by
  refine ca_of (N := ["_law_script", "_law_k", "_law_cell", "_law_seed"]) (ps := ["_law_script", "_law_k"]) T.f_l_pool T.g_law_pool ⟨rfl, rfl, rfl, by decide +kernel, rfl, by decide +kernel, by decide +kernel⟩ (fun _ _ _ _ _ _ us hl => match us, hl with | [_, _], _ => rfl)
    (fun vs H Q E h => by obtain ⟨a, ns, k, rfl, ha, hl, hk, q⟩ := h; rfl) (fun cdv A outer s H vs Q E hr h => ?_)
  have nd : (["_law_script", "_law_k", "_law_cell", "_law_seed"] : List Str).Nodup := by decide +kernel
  obtain ⟨a, ns, k, rfl, ha, hl, hk, q⟩ := h
  refine ⟨_, (pss_cons (ps_if (pt_cmpR op_eq (pe_callB call_len_seq (by rfl) T.b_len PySem.boot_len (pa_cons (pv 0) pa_nil)) pe_int (nomark _)) (pss_one (ps_ret (pe_lst (pa_cons pe_int (pa_cons (pe_op op_add pe_int (pe_op op_mul pe_int (pv 1))) (pa_cons pe_int pa_nil)))))) pss_nil)
      (pss_cons (ps_set (i := 2) nd rfl (.inl rfl) (pe_callB call_abs (by rfl) T.b_abs boot_abs (pa_cons (pe_ix ix_list (pv 0) (pe_op op_mod (pv 1) (pe_callB call_len_seq (by rfl) T.b_len PySem.boot_len (pa_cons (pv 0) pa_nil))) (fun _ _ => rfl)) pa_nil)))
      (pss_cons (ps_set (i := 3) nd rfl (.inl rfl) (pe_op op_add (pe_op op_add (pe_op op_mod (pe_callTy call_int1 (by rfl) T.b_int boot_int (pa_cons (pv 2) pa_nil)) pe_int) (pe_op op_mul pe_int (pv 1))) (pe_callTy call_int1 (by rfl) T.b_int boot_int (pa_cons (pe_cmpR op_lt (pe_ix ix_list (pv 0) (pe_op op_mod (pv 1) (pe_callB call_len_seq (by rfl) T.b_len PySem.boot_len (pa_cons (pv 0) pa_nil))) (fun _ _ => rfl)) pe_int (nomark _)) pa_nil))))
      (pss_cons (ps_if (PW.pt (pw_and (pt_cmpR op_lt (pv 1) (pe_callB call_len_seq (by rfl) T.b_len PySem.boot_len (pa_cons (pv 0) pa_nil)) (nomark _)) (pw_and1 (pt_cmpR op_ge (pv 2) (pe_op op_pow pe_int pe_int) (nomark _))))) (pss_one (ps_ret (pe_lst (pa_cons (pv 2) (pa_cons (pv 3) (pa_cons pe_int pa_nil)))))) pss_nil)
      (pss_one (ps_ret (pe_lst (pa_cons pe_int (pa_cons (pv 3) (pa_cons pe_int pa_nil)))))))))), ?_⟩
  refine ⟨_, rfl, _, _, rfl, .inl ha, rfl, _, rfl, ?_⟩
  by_cases c : ns.length = 0
  · rw [decide_eq_true (show V.int ((ns.map V.int).length : Nat) = V.int 0 from by rw [List.length_map, c]; rfl)]
    refine iteT ⟨_, rfl, _, _, rfl, rfl, .inl (by decide), _, _, rfl, rfl, (by show 3 ≤ sizeLine; decide), fun p np => ?_⟩
    exact q p _ (same_new np) np ⟨_, _, _, upd_same, by decide, by omega, by decide⟩
  · rw [decide_eq_false (show ¬ V.int ((ns.map V.int).length : Nat) = V.int 0 from fun z => c (by have := V.int.inj z; rw [List.length_map] at this; omega))]
    refine iteF ?_
    have hm0 := Int.emod_nonneg k (show ((ns.map V.int).length : Int) ≠ 0 by rw [List.length_map]; omega)
    have hm1 := Int.emod_lt_of_pos k (show (0 : Int) < ((ns.map V.int).length : Nat) by rw [List.length_map]; omega)
    have hat := atK (l := ns) hm0 hm1 (by rw [List.length_map])
    generalize ns.getD (k % ((ns.map V.int).length : Nat)).toNat 0 = x at hat
    have pos : (fun (_ j : Int) => 0 < j) k ((ns.map V.int).length : Nat) := by show (0 : Int) < ((ns.map V.int).length : Nat); rw [List.length_map]; omega
    refine ⟨_, rfl, _, rfl, _, rfl, _, _, rfl, .inl ha, _, _, rfl, rfl, pos, _, _, _, _, rfl, rfl, ha, hat, _, rfl, ?_⟩
    have hx : 0 ≤ (if x < 0 then -x else x) := by split <;> omega
    generalize (if x < 0 then -x else x) = z at hx
    refine ⟨_, rfl, .inl ⟨_, rfl, _, _, rfl, rfl, (by show (0 : Int) < 2147483629; decide), _, rfl, _, _, rfl, rfl, .inl (by decide), _, _, rfl, rfl, ?_⟩⟩
    refine ⟨_, rfl, _, rfl, _, rfl, _, _, rfl, .inl ha, _, _, rfl, rfl, pos, _, _, _, _, rfl, rfl, ha, hat, _, _, rfl, rfl, .inr ⟨_, rfl, _, _, rfl, rfl, ?_⟩⟩
    have s0 : 0 ≤ (if decide (x < 0) = true then (1 : Int) else 0) ∧ (if decide (x < 0) = true then (1 : Int) else 0) ≤ 1 := by split <;> omega
    have z0 := Int.emod_nonneg z (show (2147483629 : Int) ≠ 0 by decide)
    have z1 := Int.emod_lt_of_pos z (show (0 : Int) < 2147483629 by decide)
    have sb : 0 ≤ z % 2147483629 + 1009 * k + (if decide (x < 0) = true then (1 : Int) else 0) ∧ z % 2147483629 + 1009 * k + (if decide (x < 0) = true then (1 : Int) else 0) < 1099511627776 := by omega
    refine ⟨_, rfl, _, rfl, _, _, rfl, .inl ha, _, _, rfl, rfl, _, rfl, ?_⟩
    have no : ∀ p, H p = none → Q (.ref p) (upd H p (.lst [.int 0, .int (z % 2147483629 + 1009 * k + (if decide (x < 0) = true then (1 : Int) else 0)), .int 0])) := fun p np => q p _ (same_new np) np ⟨_, _, _, upd_same, by decide, sb, by decide⟩
    by_cases c1 : k < ((ns.map V.int).length : Nat)
    · rw [decide_eq_true c1]
      refine iteT ⟨_, rfl, _, _, rfl, rfl, ⟨by decide, by decide, by decide⟩, _, _, rfl, rfl, _, rfl, ?_⟩
      by_cases c2 : (10 ^ (18 : Int).toNat : Int) ≤ z
      · rw [decide_eq_true c2]
        refine iteT ⟨_, rfl, _, rfl, (by show 3 ≤ sizeLine; decide), fun p np => ?_⟩
        exact q p _ (same_new np) np ⟨_, _, _, upd_same, hx, sb, by decide⟩
      · rw [decide_eq_false c2]
        exact iteF ⟨_, rfl, (by show 3 ≤ sizeLine; decide), no⟩
    · rw [decide_eq_false c1]
      exact iteF ⟨_, rfl, (by show 3 ≤ sizeLine; decide), no⟩
def spDraw : Sp := fun vs H Q _ => ∃ (a : Addr) (m : Int), vs = [.ref a, .int m] ∧ PoolAt H a ∧ (1 ≤ m ∧ m ≤ 1000) ∧ ∀ (i : Int) (H' : Hp), But a H H' → PoolAt H' a → (0 ≤ i ∧ i < m) → Q (.int i) H'
theorem ca_l_draw (T : Txt w K mg) : Ca P w K mg base 1 "_law_draw" (spDraw) := by
  refine ca_of (N := ["_law_pool_here", "_law_many", "_law_digit", "_law_number"]) (ps := ["_law_pool_here", "_law_many"]) T.f_l_draw T.g_law_draw ⟨rfl, rfl, rfl, by decide +kernel, rfl, by decide +kernel, by decide +kernel⟩ (fun _ _ _ _ _ _ us hl => match us, hl with | [_, _], _ => rfl)
    (fun vs H Q E h => by obtain ⟨a, m, rfl, ⟨g, sd, n, hp, hg, hs, hn⟩, hm, q⟩ := h; rfl) (fun cdv A outer s H vs Q E hr h => ?_)
  have nd : (["_law_pool_here", "_law_many", "_law_digit", "_law_number"] : List Str).Nodup := by decide +kernel
  obtain ⟨a, m, rfl, ⟨g, sd, n, hp, hg, hs, hn⟩, hm, q⟩ := h
  refine ⟨_, (pss_cons (ps_if (pt_cmpR op_gt (pe_ix ix_list (pv 0) pe_int (fun _ _ => rfl)) pe_int (nomark _)) (pss_cons (ps_set (i := 2) nd rfl (.inl rfl) (pe_op op_mod (pe_callTy call_int1 (by rfl) T.b_int boot_int (pa_cons (pe_ix ix_list (pv 0) pe_int (fun _ _ => rfl)) pa_nil)) (pv 1)))
      (pss_cons (ps_asg (pe_op op_fdiv (pe_ix ix_list (pv 0) pe_int (fun _ _ => rfl)) (pv 1)) (pg_sub (pv 0) pe_int set_list))
      (pss_one (ps_ret (pv 2))))) pss_nil)
      (pss_cons (ps_asg (pe_op op_add (pe_ix ix_list (pv 0) pe_int (fun _ _ => rfl)) pe_int) (pg_sub (pv 0) pe_int set_list))
      (pss_cons (ps_set (i := 3) nd rfl (.inl rfl) (pe_op op_mod (pe_callTy call_int1 (by rfl) T.b_int boot_int (pa_cons (pe_op op_mul (pe_op op_add (pe_ix ix_list (pv 0) pe_int (fun _ _ => rfl)) pe_int) (pe_op op_add (pe_op op_mul pe_int (pe_ix ix_list (pv 0) pe_int (fun _ _ => rfl))) pe_int)) pa_nil)) pe_int))
      (pss_cons (ps_set (i := 3) nd rfl (.inl rfl) (pe_op op_mod (pe_callTy call_int1 (by rfl) T.b_int boot_int (pa_cons (pe_op op_mul (pv 3) (pe_op op_add (pe_op op_fdiv (pv 3) pe_int) pe_int)) pa_nil)) pe_int))
      (pss_cons (ps_set (i := 3) nd rfl (.inl rfl) (pe_op op_mod (pe_callTy call_int1 (by rfl) T.b_int boot_int (pa_cons (pe_op op_mul (pv 3) (pe_op op_add (pe_op op_fdiv (pv 3) pe_int) pe_int)) pa_nil)) pe_int))
      (pss_one (ps_ret (pe_op op_mod (pe_callTy call_int1 (by rfl) T.b_int boot_int (pa_cons (pe_op op_fdiv (pv 3) pe_int) pa_nil)) (pv 1))))))))), ?_⟩
  have hsq : SqL K H a [.int g, .int sd, .int n] := .of hp
  refine ⟨_, rfl, _, _, _, _, rfl, rfl, hsq, at0, _, _, rfl, rfl, _, rfl, ?_⟩
  by_cases c : (0 : Int) < g
  · rw [decide_eq_true c]
    refine iteT ?_
    refine ⟨_, rfl, _, _, _, _, rfl, rfl, hsq, at0, .inl ⟨_, rfl, _, rfl, _, _, rfl, rfl, (by show (0 : Int) < m; omega), ?_⟩⟩
    refine ⟨_, rfl, _, _, _, _, rfl, rfl, hsq, at0, _, rfl, _, _, rfl, rfl, ⟨(by show (0 : Int) < m; omega), (by show m < 1073741824; omega)⟩, ?_⟩
    refine ⟨_, rfl, a, _, _, 0, rfl, rfl, hp, rfl, ?_⟩
    refine ⟨_, rfl, q _ _ But.upd ⟨g / m, sd, n, upd_same, Int.ediv_nonneg (by omega) (by omega), hs, hn⟩ ⟨Int.emod_nonneg _ (by omega), Int.emod_lt_of_pos _ (by omega)⟩⟩
  · rw [decide_eq_false c]
    refine iteF ?_
    refine ⟨_, rfl, _, _, _, _, rfl, rfl, hsq, at2, _, _, rfl, rfl, _, rfl, a, _, _, 2, rfl, rfl, hp, rfl, ?_⟩
    have hp2 : upd H a (.lst (([.int g, .int sd, .int n] : List V).set 2 (.int (n + 1)))) a = some (.lst [.int g, .int sd, .int (n + 1)]) := upd_same
    have b2 : But a H (upd H a (.lst (([.int g, .int sd, .int n] : List V).set 2 (.int (n + 1))))) := But.upd
    have hsq2 : SqL K _ a [.int g, .int sd, .int (n + 1)] := .of hp2
    have md : ∀ (u : Int), (fun (_ j : Int) => 0 < j) u m := fun u => by show (0 : Int) < m; omega
    refine ⟨_, rfl, _, _, _, _, rfl, rfl, hsq2, at1, _, _, rfl, rfl, _, rfl, _, _, _, _, rfl, rfl, hsq2, at2, _, _, rfl, rfl, .inl (by decide), _, _, rfl, rfl, _, _, rfl, rfl, .inl ?_, .inl ⟨_, rfl, _, _, rfl, rfl, (by show (0 : Int) < 2147483647; decide), ?_⟩⟩
    · show -(2 ^ 64) < sd + 1 ∧ sd + 1 < 2 ^ 64
      omega
    have mb : ∀ u : Int, -(2 ^ 64) < u % 2147483647 ∧ u % 2147483647 < 2 ^ 64 := fun u => by
      have h0 := Int.emod_nonneg u (show (2147483647 : Int) ≠ 0 by decide)
      have h1 := Int.emod_lt_of_pos u (show (0 : Int) < 2147483647 by decide)
      omega
    refine ⟨_, rfl, _, rfl, _, _, rfl, rfl, ⟨(by show (0 : Int) < 1009; decide), (by show (1009 : Int) < 1073741824; decide)⟩, _, _, rfl, rfl, _, _, rfl, rfl, .inl (by constructor <;> omega), .inl ⟨_, rfl, _, _, rfl, rfl, (by show (0 : Int) < 2147483647; decide), ?_⟩⟩
    refine ⟨_, rfl, _, rfl, _, _, rfl, rfl, ⟨(by show (0 : Int) < 2003; decide), (by show (2003 : Int) < 1073741824; decide)⟩, _, _, rfl, rfl, _, _, rfl, rfl, .inl (by constructor <;> omega), .inl ⟨_, rfl, _, _, rfl, rfl, (by show (0 : Int) < 2147483399; decide), ?_⟩⟩
    refine ⟨_, rfl, _, _, rfl, rfl, ⟨(by show (0 : Int) < 16; decide), (by show (16 : Int) < 1073741824; decide)⟩, .inl ⟨_, rfl, _, rfl, _, _, rfl, rfl, (by show (0 : Int) < m; omega), ?_⟩⟩
    exact q _ _ b2 ⟨g, sd, n + 1, hp2, hg, hs, by omega⟩ ⟨Int.emod_nonneg _ (by omega), Int.emod_lt_of_pos _ (by omega)⟩
end

end M

set_option Elab.async false
set_option linter.all false
set_option maxRecDepth 100000
set_option maxHeartbeats 2000000
namespace M
open PySem PySem.Spec PyProof.Rows L2

theorem PoolAt.ch {H : Hp} {a : Addr} (h : PoolAt H a) : Ch H a := by
  obtain ⟨_, _, _, h, _⟩ := h
  exact .lst h
theorem PoolAt.same {H H' : Hp} {a : Addr} (s : Same H H') (h : PoolAt H a) : PoolAt H' a := by
  obtain ⟨_, _, _, h, r⟩ := h
  exact ⟨_, _, _, s _ _ h, r⟩
theorem PoolAt.at {H : Hp} {a : Addr} (h : PoolAt H a) : ∃ l, H a = some (.lst l) := by
  obtain ⟨_, _, _, h, _⟩ := h
  exact ⟨_, h⟩
theorem PoolAt.but {H H' : Hp} {a D : Addr} (ne : a ≠ D) (b : But D H H') (h : PoolAt H a) : PoolAt H' a := by
  obtain ⟨_, _, _, h, r⟩ := h
  exact ⟨_, _, _, b _ _ ne h, r⟩
theorem pool_ne {H : Hp} {p b : Addr} (h : PoolAt H p) (nb : H b = none) : p ≠ b := fun e => by
  obtain ⟨_, _, _, h, _⟩ := h
  rw [e, nb] at h
  cases h
theorem pool_nl {H : Hp} {p l : Addr} (h : PoolAt H p) (nb : H l = none) : l ≠ p := fun e => (pool_ne h nb) e.symm
theorem ix_tupK {X : Cx} (K : PySem.W.Frag) (hK : X.K = K) : IxR X (rIxT K) := hK ▸ ix_tup

end M

set_option Elab.async false
set_option linter.all false
set_option maxRecDepth 100000
set_option maxHeartbeats 2000000
namespace M
open PySem PySem.Spec PyProof.Rows L2

/-! ### calls and items, and their lines -/
def callD (c : Str × Int) : PyData := .tuple [.str c.1, .int c.2]
def CallOk (c : Str × Int) : Prop := NameOk c.1 ∧ 0 ≤ c.2 ∧ c.2 ≤ 8
inductive Itm where
  | step (h : Int) | call (h : Int) (c : Str × Int)
def itemD : Itm → PyData
  | .step h => .tuple [.str "step", .int h]
  | .call h c => .tuple [.str "call", .int h, callD c]
def ItemOk : Itm → Prop
  | .step h => 0 ≤ h ∧ h ≤ 1
  | .call h c => (0 ≤ h ∧ h ≤ 1) ∧ CallOk c
/-- a number of one digit -/
def dg (i : Int) : Str := ⟨#[48 + i.toNat]⟩
def callL (c : Str × Int) : Str := c.1 ++ (" " : Str) ++ dg c.2
def itemL : Itm → Str
  | .step h => ("step " : Str) ++ dg h
  | .call h c => ("call " : Str) ++ dg h ++ (" " : Str) ++ callL c
theorem dig_str {i : Int} (h : 0 ≤ i ∧ i ≤ 9) : Str.ofString (toString i) = dg i := by
  obtain ⟨k, rfl⟩ : ∃ k : _root_.Fin 10, i = ((k.val : Nat) : Int) := ⟨⟨i.toNat, by omega⟩, by show i = ((i.toNat : Nat) : Int); omega⟩
  revert k
  decide +kernel
theorem dig_log {i : Int} (h : 0 ≤ i ∧ i ≤ 9) : i.natAbs.log2 < 1920 := by
  obtain ⟨k, rfl⟩ : ∃ k : _root_.Fin 10, i = ((k.val : Nat) : Int) := ⟨⟨i.toNat, by omega⟩, by show i = ((i.toNat : Nat) : Int); omega⟩
  revert k
  decide +kernel
theorem dig_int {i : Int} (h : 0 ≤ i ∧ i ≤ 9) : PySem.intText? (dg i) = some i := by
  obtain ⟨k, rfl⟩ : ∃ k : _root_.Fin 10, i = ((k.val : Nat) : Int) := ⟨⟨i.toNat, by omega⟩, by show i = ((i.toNat : Nat) : Int); omega⟩
  revert k
  decide +kernel
theorem tl_dg (i : Int) : TL.tl (dg i) = [48 + i.toNat] := rfl
theorem len_dg (i : Int) : (dg i).length = 1 := rfl
theorem tl_len (s : Str) : s.length = (TL.tl s).length := TL.len_tl s
theorem len_app (a b : Str) : (a ++ b).length = a.length + b.length := by rw [tl_len, TL.tl_append, List.length_append, ← tl_len, ← tl_len]
theorem tl_sp : TL.tl (" " : Str) = [32] := by decide +kernel
theorem tl_nl : TL.tl ("\n" : Str) = [10] := by decide +kernel
theorem tl_step : TL.tl ("step" : Str) = [115, 116, 101, 112] := by decide +kernel
theorem tl_call : TL.tl ("call" : Str) = [99, 97, 108, 108] := by decide +kernel
theorem tl_step_ : TL.tl ("step " : Str) = [115, 116, 101, 112, 32] := by decide +kernel
theorem tl_call_ : TL.tl ("call " : Str) = [99, 97, 108, 108, 32] := by decide +kernel
theorem empty_app (a : Str) : Str.empty ++ a = a := TL.ext_tl (by rw [TL.tl_append]; rfl)
/-- words with blanks between -/
def wordsL : Itm → List Str
  | .step h => ["step", dg h]
  | .call h c => ["call", dg h, c.1, dg c.2]
theorem callL_words (c : Str × Int) : callL c = Txt.join (" " : Str) [c.1, dg c.2] := TL.ext_tl (by
  rw [TL.join_eq, TL.tl_join]
  show TL.tl (c.1 ++ (" " : Str) ++ dg c.2) = TL.tl c.1 ++ (TL.tl (" " : Str) ++ TL.tl (dg c.2))
  rw [TL.tl_append, TL.tl_append, List.append_assoc])
theorem itemL_words (t : Itm) : itemL t = Txt.join (" " : Str) (wordsL t) := TL.ext_tl (by
  rw [TL.join_eq, TL.tl_join]
  cases t with
  | step h =>
    show TL.tl (("step " : Str) ++ dg h) = TL.tl ("step" : Str) ++ (TL.tl (" " : Str) ++ TL.tl (dg h))
    rw [TL.tl_append, tl_step_, tl_step, tl_sp]
    rfl
  | call h c =>
    show TL.tl (("call " : Str) ++ dg h ++ (" " : Str) ++ (c.1 ++ (" " : Str) ++ dg c.2)) = TL.tl ("call" : Str) ++ (TL.tl (" " : Str) ++ (TL.tl (dg h) ++ (TL.tl (" " : Str) ++ (TL.tl c.1 ++ (TL.tl (" " : Str) ++ TL.tl (dg c.2))))))
    simp only [TL.tl_append, tl_call_, tl_call, tl_sp, List.append_assoc]
    rfl)
theorem name_free {s : Str} (h : NameOk s) {x : Nat} (hx : x < 97) : x ∉ TL.tl s := fun hm => by
  have := h.2.2 x hm
  omega
theorem dg_free {i : Int} (h : 0 ≤ i ∧ i ≤ 8) {x : Nat} (hx : x < 48) : x ∉ TL.tl (dg i) := fun hm => by
  rw [tl_dg, List.mem_singleton] at hm
  omega
theorem sp_all : (" " : Str).cps.all (· < 256) = true := by decide +kernel
theorem nl_all : ("\n" : Str).cps.all (· < 256) = true := by decide +kernel
theorem split_call {c : Str × Int} (h : CallOk c) : Txt.split (callL c) (" " : Str) = [c.1, dg c.2] := by
  rw [callL_words]
  refine TL.split_join tl_sp sp_all (by simp) fun p hp => ?_
  rcases List.mem_cons.mp hp with rfl | hp
  · exact name_free h.1 (by decide)
  · rw [List.mem_singleton.mp hp]
    exact dg_free h.2 (by decide)
theorem split_item {t : Itm} (h : ItemOk t) : Txt.split (itemL t) (" " : Str) = wordsL t := by
  rw [itemL_words]
  cases t with
  | step hd =>
    refine TL.split_join tl_sp sp_all (by simp [wordsL]) fun p hp => ?_
    rcases List.mem_cons.mp hp with rfl | hp
    · rw [tl_step]; decide
    · rw [List.mem_singleton.mp hp]
      exact dg_free ⟨h.1, by have := h.2; omega⟩ (by decide)
  | call hd c =>
    refine TL.split_join tl_sp sp_all (by simp [wordsL]) fun p hp => ?_
    rcases List.mem_cons.mp hp with rfl | hp
    · rw [tl_call]; decide
    · rcases List.mem_cons.mp hp with rfl | hp
      · exact dg_free ⟨h.1.1, by have := h.1.2; omega⟩ (by decide)
      · rcases List.mem_cons.mp hp with rfl | hp
        · exact name_free h.2.1 (by decide)
        · rw [List.mem_singleton.mp hp]
          exact dg_free h.2.2 (by decide)
theorem callL_line {c : Str × Int} (h : CallOk c) : 10 ∉ TL.tl (callL c) ∧ 1 ≤ (callL c).length ∧ (callL c).length ≤ 10 := by
  have n1 := name_free h.1 (x := 10) (by decide)
  have n2 := dg_free h.2 (x := 10) (by decide)
  refine ⟨?_, ?_⟩
  · unfold callL
    rw [TL.tl_append, TL.tl_append, tl_sp]
    intro hm
    rcases List.mem_append.mp hm with hm | hm
    · rcases List.mem_append.mp hm with hm | hm
      · exact n1 hm
      · exact absurd hm (by decide)
    · exact n2 hm
  · unfold callL
    have l1 : (" " : Str).length = 1 := by decide +kernel
    have a := h.1.1
    have b := h.1.2.1
    rw [len_app, len_app, len_dg, l1]
    omega
theorem itemL_line {t : Itm} (h : ItemOk t) : 10 ∉ TL.tl (itemL t) ∧ 1 ≤ (itemL t).length ∧ (itemL t).length ≤ 20 := by
  have l1 : (" " : Str).length = 1 := by decide +kernel
  cases t with
  | step hd =>
    have n2 := dg_free (i := hd) ⟨h.1, by have := h.2; omega⟩ (x := 10) (by decide)
    have l5 : ("step " : Str).length = 5 := by decide +kernel
    refine ⟨?_, ?_⟩
    · unfold itemL
      rw [TL.tl_append, tl_step_]
      intro hm
      rcases List.mem_append.mp hm with hm | hm
      · exact absurd hm (by decide)
      · exact n2 hm
    · unfold itemL
      rw [len_app, len_dg, l5]
      decide
  | call hd c =>
    have n2 := dg_free (i := hd) ⟨h.1.1, by have := h.1.2; omega⟩ (x := 10) (by decide)
    obtain ⟨n3, l3, l4⟩ := callL_line h.2
    have l5 : ("call " : Str).length = 5 := by decide +kernel
    refine ⟨?_, ?_⟩
    · unfold itemL
      rw [TL.tl_append, TL.tl_append, TL.tl_append, tl_call_, tl_sp]
      intro hm
      rcases List.mem_append.mp hm with hm | hm
      · rcases List.mem_append.mp hm with hm | hm
        · rcases List.mem_append.mp hm with hm | hm
          · exact absurd hm (by decide)
          · exact n2 hm
        · exact absurd hm (by decide)
      · exact n3 hm
    · unfold itemL
      rw [len_app, len_app, len_app, len_dg, l5, l1]
      omega
theorem callD_noL (c : Str × Int) : NoL (callD c) := .tup fun d h => by
  simp at h
  rcases h with rfl | rfl
  · exact .str _
  · exact .int _
theorem itemD_noL (t : Itm) : NoL (itemD t) := by
  cases t with
  | step h =>
    refine .tup fun d hd => ?_
    simp at hd
    rcases hd with rfl | rfl
    · exact .str _
    · exact .int _
  | call h c =>
    refine .tup fun d hd => ?_
    simp at hd
    rcases hd with rfl | rfl | rfl
    · exact .str _
    · exact .int _
    · exact callD_noL c
section
variable {P : Program} {w : World} {K : PySem.W.Frag} {mg : Str → Option Value} {base : Heap}
def spNameL : Sp := fun vs H Q _ => ∃ (p : Addr), vs = [.ref p] ∧ PoolAt H p ∧ ∀ (s : Str) (H' : Hp), But p H H' → PoolAt H' p → NameOk s → Q (.str s) H'
theorem ca_l_name (T : Txt w K mg) : Ca P w K mg base 2 "_law_name" (spNameL) := by
  refine ca_of (N := ["_law_pool_here", "_law_letters", "_law_turn"]) (ps := ["_law_pool_here"]) T.f_l_name T.g_law_name ⟨rfl, rfl, rfl, by decide +kernel, rfl, by decide +kernel, by decide +kernel⟩ (fun _ _ _ _ _ _ us hl => match us, hl with | [_], _ => rfl)
    (fun vs H Q E h => by obtain ⟨p, rfl, hp, q⟩ := h; rfl) (fun cdv A outer s H vs Q E hr h => ?_)
  have nd : (["_law_pool_here", "_law_letters", "_law_turn"] : List Str).Nodup := by decide +kernel
  obtain ⟨p, rfl, hp, q⟩ := h
  refine ⟨_, (pss_cons (ps_set (i := 1) nd rfl (.inr rfl) pe_str)
      (pss_one (ps_ret (pe_join pe_str (pe_lc (own := [("_law_turn", 2)]) (tt := tYes) rfl nd (pi_range1 rfl T.b_range (pa_cons (pe_op op_add pe_int (pe_ca (ca_l_draw T) hr (pa_cons (pv 0) (pa_cons pe_int pa_nil)))) pa_nil)) (blkOk_by (N := ["_law_pool_here", "_law_letters", "_law_turn"]) (sc := defScope s_l_name) (by decide +kernel)) (fun _ _ _ _ _ => pg_name (i := 2) nd rfl (.inl rfl)) (fun _ _ _ _ _ => pts_nil) (fun _ _ _ _ _ => pe_ix ix_str (pv 1) (pe_ca (ca_l_draw T) hr (pa_cons (pv 0) (pa_cons pe_int pa_nil))) (fun _ _ => rfl))))))), ?_⟩
  refine ⟨⟨_, rfl⟩, _, rfl, p, 8, rfl, hp, by omega, fun m H2 b2 p2 hm => ⟨_, _, rfl, rfl, _, rfl, by omega, by omega, fun D nD => ?_⟩⟩
  have nDp := pool_nl p2 nD
  refine it_any (n := (1 + m).toNat) walk_range (fun i J => ∃ ss : List Str, But p H2 J ∧ PoolAt J p ∧ J D = some (.lst (ss.map V.str)) ∧ ss.length = i ∧ ∀ s ∈ ss, ∃ c, s = ⟨#[c]⟩ ∧ 97 ≤ c ∧ c ≤ 122) ⟨[], same_but (same_new nD), p2.same (same_new nD), upd_same, rfl, fun s h => by cases h⟩ (fun _ _ _ _ => trivial) ?_ ?_
  · rintro j z J0 J hj ⟨ss, bj, pj, hD, el, hss⟩ ⟨rfl, rfl⟩
    refine ⟨rfl, _, rfl, _, rfl, p, 26, rfl, pj, by omega, fun c J2 b6 p6 hc => ?_⟩
    have hat := let26 hc
    have hD2 := b6 _ _ nDp hD
    have bb : But D J2 (upd J2 D (.lst (ss.map V.str ++ [.str ⟨#[97 + c.toNat]⟩]))) := But.upd
    refine ⟨_, c, 97 + c.toNat, rfl, rfl, (by decide +kernel), hat, ss.map V.str, hD2, by rw [List.length_map, sizeLine_eq]; omega, ss ++ [⟨#[97 + c.toNat]⟩], fun a o h e => bb _ _ (ne_of_none e nD) (b6 _ _ h (bj _ _ h e)), p6.but (Ne.symm nDp) bb, by rw [List.map_append]; exact upd_same, by simp [el], fun s hs => ?_⟩
    rcases List.mem_append.mp hs with hs | hs
    · exact hss s hs
    · rw [List.mem_singleton.mp hs]
      exact ⟨_, rfl, by omega, by omega⟩
  · rintro H3 ⟨ss, bj, pj, hD, el, hss⟩
    obtain ⟨j1, j2⟩ := join_letters hss
    refine ⟨_, D, ss, rfl, rfl, .inl (.of hD), ?_, ?_⟩
    · have : (ss.map (·.length)).sum ≤ ss.length := by
        clear hD el j1 j2
        induction ss with
        | nil => exact Nat.le_refl _
        | cons s r ih =>
          obtain ⟨c, rfl, _⟩ := hss s List.mem_cons_self
          have := ih fun x hx => hss x (List.mem_cons_of_mem _ hx)
          rw [List.map_cons, List.sum_cons, List.length_cons]
          show 1 + _ ≤ _
          omega
      have e0 : ("" : Str).length = 0 := by decide +kernel
      rw [e0]
      omega
    · exact q _ H3 (b2.trans bj) pj ⟨by rw [str_len, j1]; omega, by rw [str_len, j1]; omega, j2⟩
def spCallD (K : PySem.W.Frag) : Sp := fun vs H Q _ => ∃ (p : Addr), vs = [.ref p] ∧ PoolAt H p ∧ ∀ (t : Addr) (c : Str × Int) (H' : Hp), But p H H' → PoolAt H' p → Dp K H' (.ref t) (callD c) → CallOk c → Q (.ref t) H'
theorem ca_l_call (T : Txt w K mg) : Ca P w K mg base 3 "_law_call" (spCallD K) := by
  refine ca_of (N := ["_law_pool_here"]) (ps := ["_law_pool_here"]) T.f_l_call T.g_law_call ⟨rfl, rfl, rfl, by decide +kernel, rfl, by decide +kernel, by decide +kernel⟩ (fun _ _ _ _ _ _ us hl => match us, hl with | [_], _ => rfl)
    (fun vs H Q E h => by obtain ⟨p, rfl, hp, q⟩ := h; rfl) (fun cdv A outer s H vs Q E hr h => ?_)
  have nd : (["_law_pool_here"] : List Str).Nodup := by decide +kernel
  obtain ⟨p, rfl, hp, q⟩ := h
  refine ⟨_, (pss_one (ps_ret (pe_tup (pa_cons (pe_ca (ca_l_name T) hr (pa_cons (pv 0) pa_nil)) (pa_cons (pe_ca (ca_l_draw T) hr (pa_cons (pv 0) (pa_cons pe_int pa_nil))) pa_nil))))), ?_⟩
  refine ⟨_, rfl, p, rfl, hp, fun s H1 b1 p1 ok => ⟨_, rfl, p, 9, rfl, p1, by omega, fun a H2 b2 p2 ha => ⟨(by show 2 ≤ sizeLine; decide), fun t nt => ?_⟩⟩⟩
  exact q t (s, a) _ ((b1.trans b2).trans (same_but (same_new nt))) (p2.same (same_new nt)) (.tup (.of upd_same) (.cons (.str _) (.cons (.int _) .nil))) ⟨ok, ha.1, by show a ≤ 8; omega⟩
def spItemDr (K : PySem.W.Frag) : Sp := fun vs H Q _ => ∃ (p : Addr), vs = [.ref p] ∧ PoolAt H p ∧ ∀ (t : Addr) (c : Itm) (H' : Hp), But p H H' → PoolAt H' p → Dp K H' (.ref t) (itemD c) → ItemOk c → Q (.ref t) H'
theorem ca_l_item (T : Txt w K mg) : Ca P w K mg base 4 "_law_item" (spItemDr K) := by
  refine ca_of (N := ["_law_pool_here", "_law_hand"]) (ps := ["_law_pool_here"]) T.f_l_item T.g_law_item ⟨rfl, rfl, rfl, by decide +kernel, rfl, by decide +kernel, by decide +kernel⟩ (fun _ _ _ _ _ _ us hl => match us, hl with | [_], _ => rfl)
    (fun vs H Q E h => by obtain ⟨p, rfl, hp, q⟩ := h; rfl) (fun cdv A outer s H vs Q E hr h => ?_)
  have nd : (["_law_pool_here", "_law_hand"] : List Str).Nodup := by decide +kernel
  obtain ⟨p, rfl, hp, q⟩ := h
  refine ⟨_, (pss_cons (ps_set (i := 1) nd rfl (.inl rfl) (pe_ca (ca_l_draw T) hr (pa_cons (pv 0) (pa_cons pe_int pa_nil))))
      (pss_cons (ps_if (pt_cmpR op_eq (pe_ca (ca_l_draw T) hr (pa_cons (pv 0) (pa_cons pe_int pa_nil))) pe_int (nomark _)) (pss_one (ps_ret (pe_tup (pa_cons pe_str (pa_cons (pv 1) pa_nil))))) pss_nil)
      (pss_one (ps_ret (pe_tup (pa_cons pe_str (pa_cons (pv 1) (pa_cons (pe_ca (ca_l_call T) hr (pa_cons (pv 0) pa_nil)) pa_nil)))))))), ?_⟩
  refine ⟨_, rfl, p, 2, rfl, hp, by omega, fun h H1 b1 p1 hh => ?_⟩
  refine ⟨_, rfl, p, 2, rfl, p1, by omega, fun k H2 b2 p2 hk => ⟨rfl, _, rfl, ?_⟩⟩
  have b12 := b1.trans b2
  by_cases c : k = 0
  · rw [decide_eq_true (show V.int k = V.int 0 from congrArg V.int c)]
    refine iteT ⟨_, rfl, (by show 2 ≤ sizeLine; decide), fun t nt => ?_⟩
    exact q t (.step h) _ (b12.trans (same_but (same_new nt))) (p2.same (same_new nt)) (.tup (.of upd_same) (.cons (.str _) (.cons (.int _) .nil))) ⟨hh.1, by show h ≤ 1; omega⟩
  · rw [decide_eq_false (show ¬ V.int k = V.int 0 from fun z => c (V.int.inj z))]
    refine iteF ⟨_, rfl, _, rfl, p, rfl, p2, fun u cl H3 b3 p3 hu ok => ⟨(by show 3 ≤ sizeLine; decide), fun t nt => ?_⟩⟩
    exact q t (.call h cl) _ ((b12.trans b3).trans (same_but (same_new nt))) (p3.same (same_new nt)) (.tup (.of upd_same) (.cons (.str _) (.cons (.int _) (.cons (dp_same (same_new nt) hu) .nil)))) ⟨⟨hh.1, by show h ≤ 1; omega⟩, ok⟩
def spCallLn (K : PySem.W.Frag) : Sp := fun vs H Q _ => ∃ (v : V) (c : Str × Int), vs = [v] ∧ Dp K H v (callD c) ∧ CallOk c ∧ Q (.str (callL c)) H
theorem ca_l_call_line (T : Txt w K mg) : Ca P w K mg base 1 "_law_call_line" (spCallLn K) := by
  refine ca_of (N := ["_law_call_here"]) (ps := ["_law_call_here"]) T.f_l_call_line T.g_law_call_line ⟨rfl, rfl, rfl, by decide +kernel, rfl, by decide +kernel, by decide +kernel⟩ (fun _ _ _ _ _ _ us hl => match us, hl with | [_], _ => rfl)
    (fun vs H Q E h => by obtain ⟨v, c, rfl, hv, ok, q⟩ := h; rfl) (fun cdv A outer s H vs Q E hr h => ?_)
  have nd : (["_law_call_here"] : List Str).Nodup := by decide +kernel
  obtain ⟨v, c, rfl, hv, ok, q⟩ := h
  refine ⟨_, (pss_one (ps_ret (pe_op op_add_str (pe_op op_add_str (pe_ix ix_tup (pv 0) pe_int (fun _ _ => rfl)) pe_str) (pe_callTy call_str_int (by rfl) T.b_str boot_str (pa_cons (pe_ix ix_tup (pv 0) pe_int (fun _ _ => rfl)) pa_nil))))), ?_⟩
  obtain ⟨t, x, y, rfl, ht, hx, hy⟩ := dp2 hv
  cases dp_str hx
  cases dp_int hy
  have l1 : (" " : Str).length = 1 := by decide +kernel
  have n8 := ok.1.2.1
  refine ⟨_, rfl, _, _, _, _, rfl, rfl, ht, at0, _, _, rfl, rfl, by rw [sizeLine_eq, l1]; omega, ?_⟩
  refine ⟨_, rfl, _, _, _, _, rfl, rfl, ht, at1, _, rfl, dig_log ⟨ok.2.1, by have := ok.2.2; omega⟩, ?_⟩
  rw [dig_str ⟨ok.2.1, by have := ok.2.2; omega⟩]
  exact ⟨_, _, rfl, rfl, by rw [sizeLine_eq, len_app, l1, len_dg]; omega, q⟩
def spItemLn (K : PySem.W.Frag) : Sp := fun vs H Q _ => ∃ (v : V) (c : Itm), vs = [v] ∧ Dp K H v (itemD c) ∧ ItemOk c ∧ Q (.str (itemL c)) H
theorem ca_l_item_line (T : Txt w K mg) : Ca P w K mg base 2 "_law_item_line" (spItemLn K) := by
  refine ca_of (N := ["_law_item_here"]) (ps := ["_law_item_here"]) T.f_l_item_line T.g_law_item_line ⟨rfl, rfl, rfl, by decide +kernel, rfl, by decide +kernel, by decide +kernel⟩ (fun _ _ _ _ _ _ us hl => match us, hl with | [_], _ => rfl)
    (fun vs H Q E h => by obtain ⟨v, c, rfl, hv, ok, q⟩ := h; rfl) (fun cdv A outer s H vs Q E hr h => ?_)
  have nd : (["_law_item_here"] : List Str).Nodup := by decide +kernel
  obtain ⟨v, c, rfl, hv, ok, q⟩ := h
  refine ⟨_, (pss_cons (ps_if (pt_cmpR op_eq (pe_ix ix_tup (pv 0) pe_int (fun _ _ => rfl)) pe_str (nomark _)) (pss_one (ps_ret (pe_op op_add_str pe_str (pe_callTy call_str_int (by rfl) T.b_str boot_str (pa_cons (pe_ix ix_tup (pv 0) pe_int (fun _ _ => rfl)) pa_nil))))) pss_nil)
      (pss_one (ps_ret (pe_op op_add_str (pe_op op_add_str (pe_op op_add_str pe_str (pe_callTy call_str_int (by rfl) T.b_str boot_str (pa_cons (pe_ix ix_tup (pv 0) pe_int (fun _ _ => rfl)) pa_nil))) pe_str) (pe_ca (ca_l_call_line T) hr (pa_cons (pe_ix ix_tup (pv 0) pe_int (fun _ _ => rfl)) pa_nil)))))), ?_⟩
  have l1 : (" " : Str).length = 1 := by decide +kernel
  have l5 : ("step " : Str).length = 5 := by decide +kernel
  have l6 : ("call " : Str).length = 5 := by decide +kernel
  cases c with
  | step h =>
    obtain ⟨t, x, y, rfl, ht, hx, hy⟩ := dp2 hv
    cases dp_str hx
    cases dp_int hy
    refine ⟨_, rfl, _, _, _, _, rfl, rfl, ht, at0, rfl, _, rfl, iteT ?_⟩
    refine ⟨_, rfl, _, _, _, _, rfl, rfl, ht, at1, _, rfl, dig_log ⟨ok.1, by have := ok.2; omega⟩, ?_⟩
    rw [dig_str ⟨ok.1, by have := ok.2; omega⟩]
    exact ⟨_, _, rfl, rfl, by rw [sizeLine_eq, l5, len_dg]; omega, q⟩
  | call h c =>
    obtain ⟨t, x, y, z, rfl, ht, hx, hy, hz⟩ := dp3 hv
    cases dp_str hx
    cases dp_int hy
    obtain ⟨_, n1, n2⟩ := callL_line ok.2
    refine ⟨_, rfl, _, _, _, _, rfl, rfl, ht, at0, rfl, _, rfl, iteF ?_⟩
    refine ⟨_, rfl, _, _, _, _, rfl, rfl, ht, at1, _, rfl, dig_log ⟨ok.1.1, by have := ok.1.2; omega⟩, ?_⟩
    rw [dig_str ⟨ok.1.1, by have := ok.1.2; omega⟩]
    refine ⟨_, _, rfl, rfl, by rw [sizeLine_eq, l6, len_dg]; omega, _, _, rfl, rfl, by rw [sizeLine_eq, len_app, l6, len_dg, l1]; omega, ?_⟩
    exact ⟨_, rfl, _, _, _, _, rfl, rfl, ht, at2, z, c, rfl, hz, ok.2, _, _, rfl, rfl, by rw [sizeLine_eq, len_app, len_app, l6, len_dg, l1]; omega, q⟩
end

end M

set_option Elab.async false
set_option linter.all false
set_option maxRecDepth 100000
set_option maxHeartbeats 2000000
namespace M
open PySem PySem.Spec PyProof.Rows L2

section
variable {P : Program} {w : World} {K : PySem.W.Frag} {mg : Str → Option Value} {base : Heap}
def spIsCall (K : PySem.W.Frag) : Sp := fun vs H Q _ => ∃ (v : V) (c : Str × Int), vs = [v] ∧ Dp K H v (callD c) ∧ CallOk c ∧ Q (.bl true) H
theorem ca_is_call (T : Txt w K mg) : Ca P w K mg base 3 "is_call" (spIsCall K) := by
  refine ca_of (N := ["value"]) (ps := ["value"]) T.f_is_call T.g_is_call ⟨rfl, rfl, rfl, by decide +kernel, rfl, by decide +kernel, by decide +kernel⟩ (fun _ _ _ _ _ _ us hl => match us, hl with | [_], _ => rfl)
    (fun vs H Q E h => by obtain ⟨v, c, rfl, hv, ok, q⟩ := h; rfl) (fun cdv A outer s H vs Q E hr h => ?_)
  have nd : (["value"] : List Str).Nodup := by decide +kernel
  obtain ⟨v, c, rfl, hv, ok, q⟩ := h
  refine ⟨_, (pss_one (ps_ret (pe_and (pe_ca (ca_is_tuple T) hr (pa_cons (pv 0) (pa_cons pe_int pa_nil))) (pe_and (pe_ca (ca_is_name T) hr (pa_cons (pe_ix ix_tup (pv 0) pe_int (fun _ _ => rfl)) pa_nil)) (pe_one (pe_ca (ca_is_within T) hr (pa_cons (pe_ix ix_tup (pv 0) pe_int (fun _ _ => rfl)) (pa_cons pe_int (pa_cons (pe_op op_sub (pe_gi T.i_MOST_CHOICES) pe_int) pa_nil))))))))), ?_⟩
  obtain ⟨a, x, y, rfl, ha, hx, hy⟩ := dp2 hv
  cases dp_str hx
  cases dp_int hy
  refine ⟨_, rfl, a, _, _, rfl, ha, _, rfl, iteT ?_⟩
  refine ⟨_, rfl, _, _, _, _, rfl, rfl, ha, at0, c.1, rfl, ok.1, _, rfl, iteT ?_⟩
  refine ⟨_, rfl, _, _, _, _, rfl, rfl, ha, at1, _, _, rfl, rfl, c.2, 0, _, rfl, ?_⟩
  rw [within_t ⟨ok.2.1, by have := ok.2.2; show c.2 ≤ 9 - 1; omega⟩]
  exact q
def spNumIn : Sp := fun vs H Q _ => ∃ (i : Int), vs = [.str (dg i)] ∧ (0 ≤ i ∧ i ≤ 8) ∧ Q (.int i) H
theorem ca_number_in (T : Txt w K mg) : Ca P w K mg base 1 "number_in" (spNumIn) := by
  refine ca_of (N := ["word", "sign"]) (ps := ["word"]) T.f_number_in T.g_number_in ⟨rfl, rfl, rfl, by decide +kernel, rfl, by decide +kernel, by decide +kernel⟩ (fun _ _ _ _ _ _ us hl => match us, hl with | [_], _ => rfl)
    (fun vs H Q E h => by obtain ⟨i, rfl, hi, q⟩ := h; rfl) (fun cdv A outer s H vs Q E hr h => ?_)
  have nd : (["word", "sign"] : List Str).Nodup := by decide +kernel
  obtain ⟨i, rfl, hi, q⟩ := h
  refine ⟨_, (pss_cons (ps_if (PW.pt (pw_or (pt_not (pt_chain op_le op_le pe_int (pe_callB call_len_str (by rfl) T.b_len PySem.boot_len (pa_cons (pv 0) pa_nil)) (pe_gi T.i_MOST_DIGITS))) (pw_or1 (PW.pt (pw_and (pt_cmpR op_eq (pe_ix ix_str (pv 0) pe_int (fun _ _ => rfl)) pe_str (nomark _)) (pw_and1 (pt_cmpR op_gt (pe_callB call_len_str (by rfl) T.b_len PySem.boot_len (pa_cons (pv 0) pa_nil)) pe_int (nomark _)))))))) (pss_one (ps_ret (pe_un un_neg pe_int))) pss_nil)
      (pss_cons (ps_for PassesOwn.never rfl (pi_str (pv 0)) (pg_name (i := 1) nd rfl (.inl rfl)) (pss_one (ps_if (pt_not (pt_chain op_le_str op_le_str pe_str (pv 1) pe_str)) (pss_one (ps_ret (pe_un un_neg pe_int))) pss_nil)))
      (pss_one (ps_ret (pe_callTy call_int_str (by rfl) T.b_int boot_int (pa_cons (pv 0) pa_nil)))))), ?_⟩
  have l1 : (dg i).length = 1 := rfl
  refine ⟨_, rfl, _, rfl, by rw [sizeLine_eq, l1]; omega, _, _, rfl, rfl, _, rfl, ?_⟩
  rw [decide_eq_true (show (1 : Int) ≤ ((dg i).length : Int) from by rw [l1]; decide)]
  refine iteT ⟨_, _, rfl, rfl, _, rfl, ?_⟩
  rw [decide_eq_true (show ((dg i).length : Int) ≤ 3 from by rw [l1]; decide)]
  refine iteF ?_
  refine ⟨_, rfl, _, 0, 48 + i.toNat, rfl, rfl, by rw [sizeLine_eq, l1]; omega, rfl, rfl, _, rfl, ?_⟩
  have hint := dig_int (i := i) ⟨hi.1, by omega⟩
  by_cases c : i = 0
  · subst c
    rw [decide_eq_true (show V.str (⟨#[48 + (0 : Int).toNat]⟩ : Str) = V.str "0" from by decide +kernel)]
    refine iteT ⟨_, rfl, _, rfl, by rw [sizeLine_eq]; decide, _, _, rfl, rfl, _, rfl, ?_⟩
    rw [decide_eq_false (show ¬ ((1 : Int) < ((dg 0).length : Int)) from by rw [show (dg 0).length = 1 from rfl]; decide)]
    refine iteF ?_
    refine ⟨_, rfl, _, rfl, for_it (n := (dg 0).cps.size) walk_str (fun i σ' H' => ∃ x, σ' = [some (.str (dg 0)), x] ∧ H' = H) ⟨none, rfl, rfl⟩ (fun _ _ _ _ _ => trivial) ?_ ?_⟩
    · rintro j x σ' H' H2 hj ⟨_, rfl, rfl⟩ ⟨rfl, k, hk, rfl⟩
      have hm : k ∈ (dg 0).cps.toList := by
        rw [← Array.getElem?_toList] at hk
        exact List.mem_of_getElem? hk
      rw [show (dg 0).cps.toList = [48] from rfl, List.mem_singleton] at hm
      subst hm
      refine ⟨_, rfl, _, _, rfl, rfl, _, rfl, ?_⟩
      refine (if_true_of (sign_le (by decide)) ?_)
      refine ⟨_, _, rfl, rfl, _, rfl, ?_⟩
      exact if_not_of (sign_le (by decide)) ⟨_, rfl, rfl⟩
    · rintro σ' H' ⟨_, rfl, rfl⟩
      exact ⟨_, rfl, _, 0, rfl, hint, by rw [l1]; decide, q⟩
  · have hne : ¬ V.str (⟨#[48 + i.toNat]⟩ : Str) = V.str "0" := fun z => by
      have z := congrArg (fun s : Str => s.cps.toList) (V.str.inj z)
      have : [48 + i.toNat] = ([48] : List Nat) := z
      have := List.cons.inj this
      omega
    rw [decide_eq_false hne]
    refine iteF ?_
    refine ⟨_, rfl, _, rfl, for_it (n := (dg i).cps.size) walk_str (fun _ σ' H' => ∃ x, σ' = [some (.str (dg i)), x] ∧ H' = H) ⟨none, rfl, rfl⟩ (fun _ _ _ _ _ => trivial) ?_ ?_⟩
    · rintro j x σ' H' H2 hj ⟨_, rfl, rfl⟩ ⟨rfl, k, hk, rfl⟩
      have hm : k ∈ (dg i).cps.toList := by
        rw [← Array.getElem?_toList] at hk
        exact List.mem_of_getElem? hk
      rw [show (dg i).cps.toList = [48 + i.toNat] from rfl, List.mem_singleton] at hm
      subst hm
      refine ⟨_, rfl, _, _, rfl, rfl, _, rfl, ?_⟩
      refine (if_true_of (sign_le (a := 48) (c := 48 + i.toNat) (by omega)) ?_)
      refine ⟨_, _, rfl, rfl, _, rfl, ?_⟩
      exact if_not_of (sign_le (a := 48 + i.toNat) (c := 57) (by omega)) ⟨_, rfl, rfl⟩
    · rintro σ' H' ⟨_, rfl, rfl⟩
      exact ⟨_, rfl, _, i, rfl, hint, by rw [l1]; decide, q⟩
def spCallIn (K : PySem.W.Frag) : Sp := fun vs H Q _ => ∃ (ws : Addr) (c : Str × Int), vs = [.ref ws] ∧ SqL K H ws [.str c.1, .str (dg c.2)] ∧ CallOk c ∧ ∀ (t : Addr) (H' : Hp), Same H H' → Dp K H' (.ref t) (callD c) → Q (.ref t) H'
theorem cf_call_in (T : Txt w K mg) : Cf P w K mg base 4 "call_in" ["words"] (spCallIn K) := by
  refine cf_of (N := ["words", "call"]) (ps := ["words"]) T.f_call_in T.g_call_in ⟨rfl, rfl, rfl, by decide +kernel, rfl, by decide +kernel, by decide +kernel⟩ (fun _ _ _ _ _ _ us hl => match us, hl with | [_], _ => rfl)
    (fun vs H Q E h => by obtain ⟨ws, c, rfl, hw, ok, q⟩ := h; rfl) (fun cdv A outer s H vs Q E hr h => ?_)
  have nd : (["words", "call"] : List Str).Nodup := by decide +kernel
  obtain ⟨ws, c, rfl, hw, ok, q⟩ := h
  refine ⟨_, (pss_cons (ps_if (pt_cmpR op_ne (pe_callB call_len_seq (by rfl) T.b_len PySem.boot_len (pa_cons (pv 0) pa_nil)) pe_int (nomark _)) (pss_one (ps_ret pe_non)) pss_nil)
      (pss_cons (ps_set (i := 1) nd rfl (.inl rfl) (pe_tup (pa_cons (pe_ix ix_list (pv 0) pe_int (fun _ _ => rfl)) (pa_cons (pe_ca (ca_number_in T) hr (pa_cons (pe_ix ix_list (pv 0) pe_int (fun _ _ => rfl)) pa_nil)) pa_nil))))
      (pss_one (ps_ret (pe_ifExp (pt_val (pe_ca (ca_is_call T) hr (pa_cons (pv 1) pa_nil))) (pv 1) pe_non))))), ?_⟩
  refine ⟨_, rfl, _, _, rfl, .inl hw, rfl, _, rfl, iteF ?_⟩
  refine ⟨_, rfl, _, _, _, _, rfl, rfl, hw, at0, _, rfl, _, _, _, _, rfl, rfl, hw, at1, c.2, rfl, ok.2, (by show 2 ≤ sizeLine; decide), fun t nt => ?_⟩
  have s1 := same_new (o := .tup [.str c.1, .int c.2]) nt
  have d1 : Dp K (upd H t (.tup [.str c.1, .int c.2])) (.ref t) (callD c) := .tup (.of upd_same) (.cons (.str _) (.cons (.int _) .nil))
  refine ⟨_, rfl, _, c, rfl, d1, ok, _, rfl, iteT ⟨_, rfl, q t _ s1 d1⟩⟩
def spRowTx (K : PySem.W.Frag) : Sp := fun vs H Q _ => ∃ (r : Addr) (xs : List V) (cs : List (Str × Int)), vs = [.ref r] ∧ SqL K H r xs ∧ DpAll K H xs (cs.map callD) ∧ (∀ c ∈ cs, CallOk c) ∧ cs.length ≤ 1000 ∧ ∀ H', Same H H' → Q (.str (Txt.join ("\n" : Str) (cs.map callL))) H'
theorem sum_len {ss : List Str} {k : Nat} (h : ∀ s ∈ ss, s.length ≤ k) : (ss.map (·.length)).sum ≤ ss.length * k := by
  induction ss with
  | nil => exact Nat.zero_le _
  | cons s r ih =>
    have h1 := h s List.mem_cons_self
    have := ih fun x hx => h x (List.mem_cons_of_mem _ hx)
    rw [List.map_cons, List.sum_cons, List.length_cons, Nat.succ_mul]
    omega
theorem get_mapC {α β : Type} {l : List α} {f : α → β} {i : Nat} {y : β} (h : (l.map f)[i]? = some y) : ∃ x, l[i]? = some x ∧ y = f x := by
  rw [List.getElem?_map] at h
  obtain ⟨x, h1, h2⟩ := Option.map_eq_some_iff.mp h
  exact ⟨x, h1, h2.symm⟩
theorem ca_row_text (T : Txt w K mg) : Ca P w K mg base 4 "row_text" (spRowTx K) := by
  refine ca_of (N := ["row", "lines", "index", "call"]) (ps := ["row"]) T.f_row_text T.g_row_text ⟨rfl, rfl, rfl, by decide +kernel, rfl, by decide +kernel, by decide +kernel⟩ (fun _ _ _ _ _ _ us hl => match us, hl with | [_], _ => rfl)
    (fun vs H Q E h => by obtain ⟨r, xs, cs, rfl, hr', hxs, ok, hl, q⟩ := h; rfl) (fun cdv A outer s H vs Q E hr h => ?_)
  have nd : (["row", "lines", "index", "call"] : List Str).Nodup := by decide +kernel
  obtain ⟨r, xs, cs, rfl, hr', hxs, ok, hl, q⟩ := h
  refine ⟨_, (pss_cons (ps_if (pt_not (pt_val (pe_is .list T.b_isinstance (pv 0) T.b_list boot_list))) (pss_one ps_never) pss_nil)
      (pss_cons (ps_set (i := 1) nd rfl (.inl rfl) (pe_lst pa_nil))
      (pss_cons (ps_for PassesOwn.never rfl (pi_enum (by rfl) T.b_enumerate (pa_cons (pv 0) pa_nil)) (pg_two K 2 3 rfl rfl nd rfl rfl (.inl rfl) (.inl rfl) (.inr rfl) (.inr rfl)) (pss_cons (ps_if (pt_not (pt_val (pe_ca (ca_is_call T) hr (pa_cons (pv 3) pa_nil)))) (pss_one ps_never) pss_nil)
      (pss_one (ps_expr (pe_bm PySem.F.plainAttrs_list PySem.F.slot_list_append PySem.F.type_list_append mt_append (pv 1) (pa_cons (pe_joined (PJ.cons (pe_fmt (pe_ix ix_tup (pv 3) pe_int (fun _ _ => rfl))) (PJ.cons pe_str (PJ.cons (pe_fmt (pe_ix ix_tup (pv 3) pe_int (fun _ _ => rfl))) PJ.nil)))) pa_nil))))))
      (pss_one (ps_ret (pe_join pe_str (pv 1))))))), ?_⟩
  have lx : xs.length = cs.length := by rw [dps_len hxs, List.length_map]
  refine ⟨_, rfl, _, _, rfl, .list hr', _, rfl, iteF ?_⟩
  refine ⟨(by show 0 ≤ sizeLine; exact Nat.zero_le _), fun D nD => ?_⟩
  have s0 : Same H (upd H D (.lst [])) := same_new nD
  refine ⟨_, rfl, r, xs, rfl, s0.seq hr', for_it (n := xs.length) walk_enum (fun i σ' H' => ∃ (x2 x3 : Option V), σ' = [some (.ref r), some (.ref D), x2, x3] ∧ Same H H' ∧ H' D = some (.lst (((cs.take i).map callL).map V.str))) ⟨none, none, rfl, s0, upd_same⟩ (fun i σ' H' _ ⟨_, _, _, s, _⟩ => s.seq hr') ?_ ?_⟩
  · rintro i x σ' H1 H2 hi ⟨x2, x3, rfl, s, hD⟩ ⟨T, a, b, rfl, hT, rfl, ea, eb⟩
    cases (Option.some.inj ea)
    obtain ⟨dd, ed, hdd⟩ := dps_get hxs eb
    obtain ⟨c, ec, rfl⟩ := get_mapC ed
    have okc := ok c (List.mem_of_getElem? ec)
    have w1 : Same H1 (upd H1 T (.tup [.int (i : Nat), b])) := same_new hT
    have hD2 := w1 _ _ hD
    have s2 := s.trans w1
    have hb := dp_same s2 hdd
    obtain ⟨t, y, z, rfl, ht, hy, hz⟩ := dp2 hb
    cases dp_str hy
    cases dp_int hz
    refine ⟨T, _, rfl, .of upd_same, rfl, _, _, rfl, _, _, rfl, rfl, ?_⟩
    generalize upd H1 T (.tup [.int (i : Nat), .ref t]) = G at hD2 s2 hb ht ⊢
    refine ⟨_, rfl, _, c, rfl, hb, okc, _, rfl, iteF ?_⟩
    obtain ⟨n1, n2, n3⟩ := callL_line okc
    have l1 : (" " : Str).length = 1 := by decide +kernel
    have n8 := okc.1.2.1
    have d9 : 0 ≤ c.2 ∧ c.2 ≤ 9 := ⟨okc.2.1, by have := okc.2.2; omega⟩
    refine ⟨_, rfl, .inl ⟨rfl, _, .of hD2⟩, ?_⟩
    refine ⟨_, rfl, _, _, _, _, rfl, rfl, ht, at0, .inl ⟨_, rfl, by rw [sizeLine_eq]; omega, _, rfl, ?_⟩⟩
    rw [empty_app]
    refine ⟨by rw [sizeLine_eq]; omega, _, rfl, by rw [sizeLine_eq, len_app, l1]; omega, ?_⟩
    refine ⟨_, rfl, _, _, _, _, rfl, rfl, ht, at1, .inr ⟨_, rfl, dig_log d9, _, rfl, ?_⟩⟩
    rw [dig_str d9]
    refine ⟨by rw [sizeLine_eq, len_app, len_app, l1, len_dg]; omega, ?_⟩
    have lc : i < cs.length := (List.getElem?_eq_some_iff.mp ec).1
    refine ⟨D, _, _, rfl, rfl, hD2, by rw [List.length_map, List.length_map, List.length_take, sizeLine_eq]; omega, _, _, rfl, fun b o e => ?_, ?_⟩
    · rw [upd_ne (ne_of_none e nD)]
      exact s2 _ _ e
    · rw [upd_same, List.take_add_one, ec, List.map_append, List.map_append]
      rfl
  · rintro σ' H1 ⟨x2, x3, rfl, s, hD⟩
    rw [show cs.take xs.length = cs from by rw [lx, List.take_length]] at hD
    refine ⟨⟨_, rfl⟩, _, rfl, _, D, cs.map callL, rfl, rfl, .inl (.of hD), ?_, q H1 s⟩
    have h1 := sum_len (ss := cs.map callL) (k := 10) fun x hx => by
      obtain ⟨c, hc, rfl⟩ := List.mem_map.mp hx
      exact (callL_line (ok c hc)).2.2
    have e0 : ("\n" : Str).length = 1 := by decide +kernel
    rw [List.length_map] at h1
    rw [e0, List.length_map]
    omega
end

end M

set_option Elab.async false
set_option linter.all false
set_option maxRecDepth 100000
set_option maxHeartbeats 2000000
namespace M
open PySem PySem.Spec PyProof.Rows L2

section
variable {P : Program} {w : World} {K : PySem.W.Frag} {mg : Str → Option Value} {base : Heap}
/-- what the def that reads a line makes of it -/
def Acts (K : PySem.W.Frag) (spA : Sp) (l : Str) (d : PyData) : Prop := ∀ (J : Hp) (ws : Addr) (Q : VK) (E : XK), J ws = some (.lst ((Txt.split l (" " : Str)).map V.str)) → (∀ (t : Addr) (J' : Hp), Same J J' → Dp K J' (.ref t) d → Q (.ref t) J') → spA [.ref ws] J Q E
def spItems (K : PySem.W.Frag) (nm : Str) (spA : Sp) : Sp := fun vs H Q _ => ∃ (ls : List Str) (ds : List PyData), vs = [.str (Txt.join ("\n" : Str) ls), .ref (He.ga K nm)] ∧ ls.length = ds.length ∧ ls.length ≤ 1000 ∧ (∀ l ∈ ls, 10 ∉ TL.tl l ∧ 1 ≤ l.length ∧ l.length ≤ 20) ∧ (∀ d ∈ ds, NoL d) ∧ (∀ (i : Nat) (l : Str) (d : PyData), ls[i]? = some l → ds[i]? = some d → Acts K spA l d) ∧
  ∀ (z : Addr) (ys : List V) (H' : Hp), Same H H' → H z = none → H' z = some (.lst ys) → DpAll K H' ys ds → Q (.ref z) H'
theorem join_len {y : Str} {ls : List Str} {k : Nat} (hk : ∀ l ∈ ls, l.length ≤ k) : (Txt.join y ls).length ≤ ls.length * (k + y.length) := by
  rw [tl_len, TL.join_eq, TL.tl_join]
  induction ls with
  | nil => exact Nat.zero_le _
  | cons l r ih =>
    have h1 := hk l List.mem_cons_self
    have h2 := ih fun x hx => hk x (List.mem_cons_of_mem _ hx)
    rw [tl_len] at h1
    rw [tl_len y] at h2 ⊢
    cases r with
    | nil =>
      show (TL.tl l).length ≤ 1 * _
      omega
    | cons m r =>
      show (TL.tl l ++ (TL.tl y ++ TL.joinL (TL.tl y) ((m :: r).map TL.tl))).length ≤ _
      rw [List.length_append, List.length_append]
      generalize (TL.joinL (TL.tl y) ((m :: r).map TL.tl)).length = A at h2 ⊢
      rw [List.length_cons, Nat.succ_mul]
      generalize (m :: r).length * (k + (TL.tl y).length) = B at h2 ⊢
      omega
theorem ca_read_items {nm : Str} {spA : Sp} (c : Cf P w K mg base 8 nm ["words"] spA)(T : Txt w K mg) : Ca P w K mg base 9 "read_items" (spItems K nm spA) := by
  refine ca_of (N := ["text", "action", "items", "index", "line", "item"]) (ps := ["text", "action"]) T.f_read_items T.g_read_items ⟨rfl, rfl, rfl, by decide +kernel, rfl, by decide +kernel, by decide +kernel⟩ (fun _ _ _ _ _ _ us hl => match us, hl with | [_, _], _ => rfl)
    (fun vs H Q E h => by obtain ⟨ls, ds, rfl, hl, hl1, hls, hnl, hA, q⟩ := h; rfl) (fun cdv A outer s H vs Q E hr h => ?_)
  have nd : (["text", "action", "items", "index", "line", "item"] : List Str).Nodup := by decide +kernel
  obtain ⟨ls, ds, rfl, hl, hl1, hls, hnl, hA, q⟩ := h
  obtain ⟨fd, oc, od, osl, lk, F, hkp, hb⟩ := c.ex
  refine ⟨_, (pss_cons (ps_if (pt_not (pt_val (pe_is .str T.b_isinstance (pv 0) T.b_str boot_str))) (pss_one ps_never) pss_nil)
      (pss_cons (ps_if (pt_cmpR op_eq (pv 0) pe_str (nomark _)) (pss_one (ps_ret (pe_lst pa_nil))) pss_nil)
      (pss_cons (ps_set (i := 2) nd rfl (.inl rfl) (pe_lst pa_nil))
      (pss_cons (ps_for PassesOwn.never rfl (pi_enum (by rfl) T.b_enumerate (pa_cons (pe_split (pv 0) pe_str) pa_nil)) (pg_two K 3 4 rfl rfl nd rfl rfl (.inl rfl) (.inl rfl) (.inr rfl) (.inr rfl)) (pss_cons (ps_set (i := 5) nd rfl (.inl rfl) (pe_callL (i := 1) (f := He.ga K nm) F hr rfl (.inl rfl) hkp hb .nil pass0 (pa_cons (pe_split (pv 4) pe_str) pa_nil)))
      (pss_cons (ps_if (pt_cmp (pc_isN (pv 5))) (pss_one ps_never) pss_nil)
      (pss_one (ps_expr (pe_bm PySem.F.plainAttrs_list PySem.F.slot_list_append PySem.F.type_list_append mt_append (pv 2) (pa_cons (pv 5) pa_nil)))))))
      (pss_one (ps_ret (pv 2))))))), ?_⟩
  refine ⟨_, rfl, _, _, rfl, .str _, _, rfl, iteF ?_⟩
  refine ⟨_, rfl, rfl, _, rfl, ?_⟩
  have l1 : ("\n" : Str).length = 1 := by decide +kernel
  have l2 : (" " : Str).length = 1 := by decide +kernel
  have len := join_len (y := ("\n" : Str)) (ls := ls) (k := 20) fun l h => (hls l h).2.2
  rw [l1] at len
  by_cases c0 : ls = []
  · subst c0
    have : ds = [] := List.length_eq_zero_iff.mp (by rw [← hl]; rfl)
    subst this
    rw [decide_eq_true (show V.str (Txt.join ("\n" : Str) []) = V.str "" from congrArg V.str (TL.ext_tl (by rw [TL.join_eq, TL.tl_join]; decide +kernel)))]
    refine iteT ⟨(by show 0 ≤ sizeLine; exact Nat.zero_le _), fun z nz => ?_⟩
    exact q z [] _ (same_new nz) nz upd_same .nil
  · have hpos : (Txt.join ("\n" : Str) ls) ≠ ("" : Str) := fun e => by
      have e1 := congrArg TL.tl e
      rw [TL.join_eq, TL.tl_join] at e1
      cases ls with
      | nil => exact c0 rfl
      | cons l r =>
        have h1 := (hls l List.mem_cons_self).2.1
        rw [tl_len] at h1
        have e2 : TL.tl ("" : Str) = [] := by decide +kernel
        rw [e2] at e1
        cases r with
        | nil =>
          have e1 : TL.tl l = [] := e1
          rw [e1] at h1
          exact absurd h1 (by decide)
        | cons m r =>
          have e1 : TL.tl l ++ (TL.tl ("\n" : Str) ++ TL.joinL (TL.tl ("\n" : Str)) ((m :: r).map TL.tl)) = [] := e1
          rw [(List.append_eq_nil_iff.mp e1).1] at h1
          exact absurd h1 (by decide)
    rw [decide_eq_false (show ¬ V.str (Txt.join ("\n" : Str) ls) = V.str "" from fun z => hpos (V.str.inj z))]
    refine iteF ⟨(by show 0 ≤ sizeLine; exact Nat.zero_le _), fun D nD => ?_⟩
    have s0 : Same H (upd H D (.lst [])) := same_new nD
    refine ⟨_, rfl, ⟨_, rfl⟩, _, _, rfl, rfl, (by decide +kernel), by rw [sizeLine_eq]; omega, fun p np => ?_⟩
    rw [TL.split_join tl_nl nl_all c0 fun l h => (hls l h).1]
    have w0 := same_new (o := .lst (ls.map V.str)) np
    have hp0 : upd (upd H D (.lst [])) p (.lst (ls.map V.str)) p = some (.lst (ls.map V.str)) := upd_same
    have hD0 := w0 D _ (upd_same (H := H) (a := D) (o := .lst []))
    have sp0 := s0.trans w0
    generalize upd (upd H D (.lst [])) p (.lst (ls.map V.str)) = G0 at hp0 hD0 sp0 ⊢
    have nDp : D ≠ p := ne_of_none (upd_same (H := H) (a := D) (o := .lst [])) np
    refine ⟨p, _, rfl, .of hp0, for_it (n := (ls.map V.str).length) walk_enum (fun i σ' H' => ∃ (x3 x4 x5 : Option V) (ys : List V), σ' = [some (.str (Txt.join ("\n" : Str) ls)), some (.ref (He.ga K nm)), some (.ref D), x3, x4, x5] ∧ (∀ b o, b ≠ D → G0 b = some o → H' b = some o) ∧ H' D = some (.lst ys) ∧ DpAll K H' ys (ds.take i) ∧ ys.length = i) ⟨none, none, none, [], rfl, (fun _ _ _ e => e), hD0, .nil, rfl⟩ (fun i σ' H' _ ⟨_, _, _, _, _, kp, _⟩ => .of (kp _ _ (Ne.symm nDp) hp0)) ?_ ?_⟩
    · rintro i x σ' H1 H2 hi ⟨x3, x4, x5, ys, rfl, kp, hD, hys, hlen⟩ ⟨Tu, a, b, rfl, hT, rfl, ea, eb⟩
      cases (Option.some.inj ea)
      obtain ⟨l, el, rfl⟩ := get_mapC eb
      have hli : i < ls.length := (List.getElem?_eq_some_iff.mp el).1
      obtain ⟨d, ed⟩ : ∃ d, ds[i]? = some d := ⟨_, List.getElem?_eq_getElem (by omega)⟩
      have ll := hls l (List.mem_of_getElem? el)
      have w1 : Same H1 (upd H1 Tu (.tup [.int (i : Nat), .str l])) := same_new hT
      have hD1 := w1 _ _ hD
      have hys1 := dps_same w1 hys
      have kp1 : ∀ b o, b ≠ D → G0 b = some o → upd H1 Tu (.tup [.int (i : Nat), .str l]) b = some o := fun b o n e => w1 _ _ (kp b o n e)
      refine ⟨Tu, _, rfl, .of upd_same, rfl, _, _, rfl, _, _, rfl, rfl, ?_⟩
      generalize upd H1 Tu (.tup [.int (i : Nat), .str l]) = J1 at hD1 hys1 kp1 ⊢
      refine ⟨rfl, _, rfl, ⟨_, rfl⟩, _, _, rfl, rfl, (by decide +kernel), by rw [sizeLine_eq]; omega, fun ws nws => ?_⟩
      refine hA i l d el ed _ ws _ _ upd_same fun t J' s dt => ?_
      have w2 := (same_new (o := .lst ((Txt.split l (" " : Str)).map V.str)) nws).trans s
      refine ⟨_, rfl, _, rfl, iteF ?_⟩
      have hD2 := w2 _ _ hD1
      refine ⟨_, rfl, .inl ⟨rfl, _, .of hD2⟩, _, rfl, D, ys, _, rfl, rfl, hD2, by rw [sizeLine_eq]; omega, _, _, _, ys ++ [.ref t], rfl, fun b o n e => ?_, upd_same, ?_, by simp [hlen]⟩
      · rw [upd_ne n]
        exact w2 _ _ (kp1 b o n e)
      · rw [take_more ed]
        have hn : ∀ d' ∈ ds.take i, NoL d' := fun d' h => hnl d' (List.mem_of_mem_take h)
        exact dps_app (dps_but (.lst hD2) But.upd (dps_same w2 hys1) hn) (.cons (dp_but (.lst hD2) But.upd dt (hnl d (List.mem_of_getElem? ed))) .nil)
    · rintro σ' H1 ⟨x3, x4, x5, ys, rfl, kp, hD, hys, hlen⟩
      rw [show ds.take (ls.map V.str).length = ds from by rw [List.length_map, hl, List.take_length]] at hys
      exact ⟨_, rfl, q D ys H1 (fun b o e => kp b o (ne_of_none e nD) (sp0 _ _ e)) nD hD hys⟩
def spReadRow (K : PySem.W.Frag) : Sp := fun vs H Q _ => ∃ (cs : List (Str × Int)), vs = [.str (Txt.join ("\n" : Str) (cs.map callL))] ∧ cs.length ≤ 1000 ∧ (∀ c ∈ cs, CallOk c) ∧ ∀ (z : Addr) (ys : List V) (H' : Hp), Same H H' → H z = none → H' z = some (.lst ys) → DpAll K H' ys (cs.map callD) → Q (.ref z) H'
theorem ca_read_row (T : Txt w K mg) : Ca P w K mg base 10 "read_row" (spReadRow K) := by
  refine ca_of (N := ["text"]) (ps := ["text"]) T.f_read_row T.g_read_row ⟨rfl, rfl, rfl, by decide +kernel, rfl, by decide +kernel, by decide +kernel⟩ (fun _ _ _ _ _ _ us hl => match us, hl with | [_], _ => rfl)
    (fun vs H Q E h => by obtain ⟨cs, rfl, hl, ok, q⟩ := h; rfl) (fun cdv A outer s H vs Q E hr h => ?_)
  have nd : (["text"] : List Str).Nodup := by decide +kernel
  obtain ⟨cs, rfl, hl, ok, q⟩ := h
  refine ⟨_, (pss_one (ps_ret (pe_ca (ca_read_items ((cf_call_in T).mono (by decide)) T) hr (pa_cons (pv 0) (pa_cons (pe_gr T.g_call_in) pa_nil))))), ?_⟩
  refine ⟨_, rfl, cs.map callL, cs.map callD, rfl, by rw [List.length_map, List.length_map], by rw [List.length_map]; exact hl, fun l h => ?_, fun d h => ?_, fun i l d el ed => ?_, q⟩
  · obtain ⟨c, hc, rfl⟩ := List.mem_map.mp h
    have := callL_line (ok c hc)
    exact ⟨this.1, this.2.1, by omega⟩
  · obtain ⟨c, hc, rfl⟩ := List.mem_map.mp h
    exact callD_noL c
  · obtain ⟨c, hc, rfl⟩ := get_mapC el
    rw [List.getElem?_map, hc] at ed
    cases (Option.some.inj ed)
    have okc := ok c (List.mem_of_getElem? hc)
    intro J ws Q' E' hJ k
    rw [split_call okc] at hJ
    exact ⟨ws, c, rfl, .of hJ, okc, k⟩
end

end M

set_option Elab.async false
set_option linter.all false
set_option maxRecDepth 100000
set_option maxHeartbeats 2000000
namespace M
open PySem PySem.Spec PyProof.Rows L2

section
variable {P : Program} {w : World} {K : PySem.W.Frag} {mg : Str → Option Value} {base : Heap}
theorem Cf.ca {k : Nat} {x : Str} {ps : List Str} {sp : Sp} (c : Cf P w K mg base k x ps sp) : Ca P w K mg base k x sp := by
  obtain ⟨fd, oc, od, osl, lk, F, hk, hb⟩ := c.ex
  exact ⟨_, fd, ps, F, c.g, hk, hb⟩
def spIsItem (K : PySem.W.Frag) : Sp := fun vs H Q _ => ∃ (v : V) (c : Itm), vs = [v] ∧ Dp K H v (itemD c) ∧ ItemOk c ∧ Q (.bl true) H
theorem ca_is_item (T : Txt w K mg) : Ca P w K mg base 4 "is_item" (spIsItem K) := by
  refine ca_of (N := ["value"]) (ps := ["value"]) T.f_is_item T.g_is_item ⟨rfl, rfl, rfl, by decide +kernel, rfl, by decide +kernel, by decide +kernel⟩ (fun _ _ _ _ _ _ us hl => match us, hl with | [_], _ => rfl)
    (fun vs H Q E h => by obtain ⟨v, c, rfl, hv, ok, q⟩ := h; rfl) (fun cdv A outer s H vs Q E hr h => ?_)
  have nd : (["value"] : List Str).Nodup := by decide +kernel
  obtain ⟨v, c, rfl, hv, ok, q⟩ := h
  refine ⟨_, (pss_cons (ps_if (PW.pt (pw_and (pt_val (pe_ca (ca_is_tuple T) hr (pa_cons (pv 0) (pa_cons pe_int pa_nil)))) (pw_and1 (pt_cmpR op_eq (pe_ix ix_tup (pv 0) pe_int (fun _ _ => rfl)) pe_str (nomark _))))) (pss_one (ps_ret (pe_and (pe_ca (ca_is_within T) hr (pa_cons (pe_ix ix_tup (pv 0) pe_int (fun _ _ => rfl)) (pa_cons pe_int (pa_cons pe_int pa_nil)))) (pe_one (pe_ca (ca_is_call T) hr (pa_cons (pe_ix ix_tup (pv 0) pe_int (fun _ _ => rfl)) pa_nil)))))) pss_nil)
      (pss_one (ps_ret (pe_and (pe_ca (ca_is_tuple T) hr (pa_cons (pv 0) (pa_cons pe_int pa_nil))) (pe_and (pe_cmpR op_eq (pe_ix ix_tup (pv 0) pe_int (fun _ _ => rfl)) pe_str (nomark _)) (pe_one (pe_ca (ca_is_within T) hr (pa_cons (pe_ix ix_tup (pv 0) pe_int (fun _ _ => rfl)) (pa_cons pe_int (pa_cons pe_int pa_nil)))))))))), ?_⟩
  cases c with
  | step h =>
    obtain ⟨a, x, y, rfl, ha, hx, hy⟩ := dp2 hv
    cases dp_str hx
    cases dp_int hy
    refine ⟨_, rfl, a, _, _, rfl, ha, _, rfl, iteF ?_⟩
    refine ⟨_, rfl, a, _, _, rfl, ha, _, rfl, iteT ?_⟩
    refine ⟨_, rfl, _, _, _, _, rfl, rfl, ha, at0, rfl, _, rfl, iteT ?_⟩
    refine ⟨_, rfl, _, _, _, _, rfl, rfl, ha, at1, h, 0, 1, rfl, ?_⟩
    rw [within_t ok]
    exact q
  | call h c =>
    obtain ⟨a, x, y, z, rfl, ha, hx, hy, hz⟩ := dp3 hv
    cases dp_str hx
    cases dp_int hy
    refine ⟨_, rfl, a, _, _, rfl, ha, _, rfl, iteT ?_⟩
    refine ⟨_, rfl, _, _, _, _, rfl, rfl, ha, at0, rfl, _, rfl, iteT ?_⟩
    refine ⟨_, rfl, _, _, _, _, rfl, rfl, ha, at1, h, 0, 1, rfl, ?_⟩
    rw [within_t ok.1]
    refine ⟨_, rfl, iteT ⟨_, rfl, _, _, _, _, rfl, rfl, ha, at2, z, c, rfl, hz, ok.2, q⟩⟩
theorem cutV_two {a b c d : V} : cutV [a, b, c, d] (some 2) none = [c, d] := by
  unfold cutV
  rw [show (some (2 : Int)) = some ((2 : Nat) : Int) from rfl, HT.sIx_nat, HT.sIx_none]
  rfl
def spItemIn (K : PySem.W.Frag) : Sp := fun vs H Q _ => ∃ (ws : Addr) (c : Itm), vs = [.ref ws] ∧ SqL K H ws ((wordsL c).map V.str) ∧ ItemOk c ∧ ∀ (t : Addr) (H' : Hp), Same H H' → Dp K H' (.ref t) (itemD c) → Q (.ref t) H'
theorem cf_item_in (T : Txt w K mg) : Cf P w K mg base 6 "item_in" ["words"] (spItemIn K) := by
  refine cf_of (N := ["words", "item"]) (ps := ["words"]) T.f_item_in T.g_item_in ⟨rfl, rfl, rfl, by decide +kernel, rfl, by decide +kernel, by decide +kernel⟩ (fun _ _ _ _ _ _ us hl => match us, hl with | [_], _ => rfl)
    (fun vs H Q E h => by obtain ⟨ws, c, rfl, hw, ok, q⟩ := h; rfl) (fun cdv A outer s H vs Q E hr h => ?_)
  have nd : (["words", "item"] : List Str).Nodup := by decide +kernel
  obtain ⟨ws, c, rfl, hw, ok, q⟩ := h
  refine ⟨_, (pss_cons (ps_if (PW.pt (pw_and (pt_cmpR op_eq (pe_callB call_len_seq (by rfl) T.b_len PySem.boot_len (pa_cons (pv 0) pa_nil)) pe_int (nomark _)) (pw_and1 (pt_cmpR op_eq (pe_ix ix_list (pv 0) pe_int (fun _ _ => rfl)) pe_str (nomark _))))) (pss_one (ps_set (i := 1) nd rfl (.inl rfl) (pe_tup (pa_cons pe_str (pa_cons (pe_ca (ca_number_in T) hr (pa_cons (pe_ix ix_list (pv 0) pe_int (fun _ _ => rfl)) pa_nil)) (pa_cons (pe_ca ((cf_call_in T).ca) hr (pa_cons (pe_slice sl_list (pv 0) (po_some pe_int) po_none) pa_nil)) pa_nil)))))) (pss_one (ps_if (pt_cmpR op_eq (pe_callB call_len_seq (by rfl) T.b_len PySem.boot_len (pa_cons (pv 0) pa_nil)) pe_int (nomark _)) (pss_one (ps_set (i := 1) nd rfl (.inl rfl) (pe_tup (pa_cons (pe_ix ix_list (pv 0) pe_int (fun _ _ => rfl)) (pa_cons (pe_ca (ca_number_in T) hr (pa_cons (pe_ix ix_list (pv 0) pe_int (fun _ _ => rfl)) pa_nil)) pa_nil))))) (pss_one (ps_ret pe_non)))))
      (pss_one (ps_ret (pe_ifExp (pt_val (pe_ca (ca_is_item T) hr (pa_cons (pv 1) pa_nil))) (pv 1) pe_non)))), ?_⟩
  cases c with
  | step h =>
    have hw : SqL K H ws [.str "step", .str (dg h)] := hw
    have okh : 0 ≤ h ∧ h ≤ 8 := ⟨ok.1, by have := ok.2; omega⟩
    refine ⟨_, rfl, _, _, rfl, .inl hw, rfl, _, rfl, iteF ?_⟩
    refine ⟨_, rfl, _, _, rfl, .inl hw, rfl, _, rfl, iteT ?_⟩
    refine ⟨_, rfl, _, _, _, _, rfl, rfl, hw, at0, _, rfl, _, _, _, _, rfl, rfl, hw, at1, h, rfl, okh, (by show 2 ≤ sizeLine; decide), fun t nt => ?_⟩
    have s1 := same_new (o := .tup [.str "step", .int h]) nt
    have d1 : Dp K (upd H t (.tup [.str "step", .int h])) (.ref t) (itemD (.step h)) := .tup (.of upd_same) (.cons (.str _) (.cons (.int _) .nil))
    exact ⟨_, rfl, _, .step h, rfl, d1, ok, _, rfl, iteT ⟨_, rfl, q t _ s1 d1⟩⟩
  | call h c =>
    have hw : SqL K H ws [.str "call", .str (dg h), .str c.1, .str (dg c.2)] := hw
    have okh : 0 ≤ h ∧ h ≤ 8 := ⟨ok.1.1, by have := ok.1.2; omega⟩
    refine ⟨_, rfl, _, _, rfl, .inl hw, rfl, _, rfl, iteT ?_⟩
    refine ⟨_, rfl, _, _, _, _, rfl, rfl, hw, at0, rfl, _, rfl, iteT ?_⟩
    refine ⟨_, rfl, _, _, _, _, rfl, rfl, hw, at1, h, rfl, okh, ?_⟩
    refine ⟨_, rfl, _, rfl, ws, _, rfl, hw, fun u nu => ?_⟩
    rw [cutV_two]
    have s0 := same_new (o := .lst [.str c.1, .str (dg c.2)]) nu
    refine ⟨u, c, rfl, .of upd_same, ok.2, fun t2 H2 s2 d2 => ⟨(by show 3 ≤ sizeLine; decide), fun t nt => ?_⟩⟩
    have s1 := same_new (o := .tup [.str "call", .int h, .ref t2]) nt
    have d1 : Dp K (upd H2 t (.tup [.str "call", .int h, .ref t2])) (.ref t) (itemD (.call h c)) := .tup (.of upd_same) (.cons (.str _) (.cons (.int _) (.cons (dp_same s1 d2) .nil)))
    exact ⟨_, rfl, _, .call h c, rfl, d1, ok, _, rfl, iteT ⟨_, rfl, q t _ ((s0.trans s2).trans s1) d1⟩⟩
def spWeavTx (K : PySem.W.Frag) : Sp := fun vs H Q _ => ∃ (r : Addr) (xs : List V) (cs : List Itm), vs = [.ref r] ∧ SqL K H r xs ∧ DpAll K H xs (cs.map itemD) ∧ (∀ c ∈ cs, ItemOk c) ∧ cs.length ≤ 1000 ∧ ∀ H', Same H H' → Q (.str (Txt.join ("\n" : Str) (cs.map itemL))) H'
theorem ca_weaving_text (T : Txt w K mg) : Ca P w K mg base 5 "weaving_text" (spWeavTx K) := by
  refine ca_of (N := ["weaving", "lines", "index", "item"]) (ps := ["weaving"]) T.f_weaving_text T.g_weaving_text ⟨rfl, rfl, rfl, by decide +kernel, rfl, by decide +kernel, by decide +kernel⟩ (fun _ _ _ _ _ _ us hl => match us, hl with | [_], _ => rfl)
    (fun vs H Q E h => by obtain ⟨r, xs, cs, rfl, hr', hxs, ok, hl, q⟩ := h; rfl) (fun cdv A outer s H vs Q E hr h => ?_)
  have nd : (["weaving", "lines", "index", "item"] : List Str).Nodup := by decide +kernel
  obtain ⟨r, xs, cs, rfl, hr', hxs, ok, hl, q⟩ := h
  refine ⟨_, (pss_cons (ps_if (pt_not (pt_val (pe_is .list T.b_isinstance (pv 0) T.b_list boot_list))) (pss_one ps_never) pss_nil)
      (pss_cons (ps_set (i := 1) nd rfl (.inl rfl) (pe_lst pa_nil))
      (pss_cons (ps_for PassesOwn.never rfl (pi_enum (by rfl) T.b_enumerate (pa_cons (pv 0) pa_nil)) (pg_two K 2 3 rfl rfl nd rfl rfl (.inl rfl) (.inl rfl) (.inr rfl) (.inr rfl)) (pss_cons (ps_if (pt_not (pt_val (pe_ca (ca_is_item T) hr (pa_cons (pv 3) pa_nil)))) (pss_one ps_never) pss_nil)
      (pss_one (ps_if (pt_cmpR op_eq (pe_ix ix_tup (pv 3) pe_int (fun _ _ => rfl)) pe_str (nomark _)) (pss_one (ps_expr (pe_bm PySem.F.plainAttrs_list PySem.F.slot_list_append PySem.F.type_list_append mt_append (pv 1) (pa_cons (pe_joined (PJ.cons pe_str (PJ.cons (pe_fmt (pe_ix ix_tup (pv 3) pe_int (fun _ _ => rfl))) (PJ.cons pe_str (PJ.cons (pe_fmt (pe_ix ix_tup (pe_ix ix_tup (pv 3) pe_int (fun _ _ => rfl)) pe_int (fun _ _ => rfl))) (PJ.cons pe_str (PJ.cons (pe_fmt (pe_ix ix_tup (pe_ix ix_tup (pv 3) pe_int (fun _ _ => rfl)) pe_int (fun _ _ => rfl))) PJ.nil))))))) pa_nil)))) (pss_one (ps_expr (pe_bm PySem.F.plainAttrs_list PySem.F.slot_list_append PySem.F.type_list_append mt_append (pv 1) (pa_cons (pe_joined (PJ.cons pe_str (PJ.cons (pe_fmt (pe_ix ix_tup (pv 3) pe_int (fun _ _ => rfl))) PJ.nil))) pa_nil))))))))
      (pss_one (ps_ret (pe_join pe_str (pv 1))))))), ?_⟩
  have lx : xs.length = cs.length := by rw [dps_len hxs, List.length_map]
  refine ⟨_, rfl, _, _, rfl, .list hr', _, rfl, iteF ?_⟩
  refine ⟨(by show 0 ≤ sizeLine; exact Nat.zero_le _), fun D nD => ?_⟩
  have s0 : Same H (upd H D (.lst [])) := same_new nD
  refine ⟨_, rfl, r, xs, rfl, s0.seq hr', for_it (n := xs.length) walk_enum (fun i σ' H' => ∃ (x2 x3 : Option V), σ' = [some (.ref r), some (.ref D), x2, x3] ∧ Same H H' ∧ H' D = some (.lst (((cs.take i).map itemL).map V.str))) ⟨none, none, rfl, s0, upd_same⟩ (fun i σ' H' _ ⟨_, _, _, s, _⟩ => s.seq hr') ?_ ?_⟩
  · rintro i x σ' H1 H2 hi ⟨x2, x3, rfl, s, hD⟩ ⟨T, a, b, rfl, hT, rfl, ea, eb⟩
    cases (Option.some.inj ea)
    obtain ⟨dd, ed, hdd⟩ := dps_get hxs eb
    obtain ⟨c, ec, rfl⟩ := get_mapC ed
    have okc := ok c (List.mem_of_getElem? ec)
    have w1 : Same H1 (upd H1 T (.tup [.int (i : Nat), b])) := same_new hT
    have hD2 := w1 _ _ hD
    have s2 := s.trans w1
    have hb := dp_same s2 hdd
    refine ⟨T, _, rfl, .of upd_same, rfl, _, _, rfl, _, _, rfl, rfl, ?_⟩
    generalize upd H1 T (.tup [.int (i : Nat), b]) = G at hD2 s2 hb ⊢
    refine ⟨_, rfl, _, c, rfl, hb, okc, _, rfl, iteF ?_⟩
    have lc : i < cs.length := (List.getElem?_eq_some_iff.mp ec).1
    have fin : G D = some (.lst (((cs.take i).map itemL).map V.str)) ∧ (((cs.take i).map itemL).map V.str).length < sizeLine ∧ ∃ (y2 y3 : Option V), [some (V.ref r), some (V.ref D), some (V.int (i : Nat)), some b] = [some (.ref r), some (.ref D), y2, y3] ∧ Same H (upd G D (.lst (((cs.take i).map itemL).map V.str ++ [.str (itemL c)]))) ∧ (upd G D (.lst (((cs.take i).map itemL).map V.str ++ [.str (itemL c)]))) D = some (.lst (((cs.take (i + 1)).map itemL).map V.str)) := by
      refine ⟨hD2, by rw [List.length_map, List.length_map, List.length_take, sizeLine_eq]; omega, _, _, rfl, fun b o e => ?_, ?_⟩
      · rw [upd_ne (ne_of_none e nD)]
        exact s2 _ _ e
      · rw [upd_same, List.take_add_one, ec, List.map_append, List.map_append]
        rfl
    have l1 : (" " : Str).length = 1 := by decide +kernel
    have l5 : ("step " : Str).length = 5 := by decide +kernel
    have l6 : ("call " : Str).length = 5 := by decide +kernel
    cases c with
    | step h =>
      obtain ⟨t, y, z, rfl, ht, hy, hz⟩ := dp2 hb
      cases dp_str hy
      cases dp_int hz
      have d9 : 0 ≤ h ∧ h ≤ 9 := ⟨okc.1, by have := okc.2; omega⟩
      refine ⟨_, rfl, _, _, _, _, rfl, rfl, ht, at0, rfl, _, rfl, iteF ?_⟩
      refine ⟨_, rfl, .inl ⟨rfl, _, .of hD2⟩, ?_⟩
      refine ⟨_, rfl, by rw [sizeLine_eq]; decide +kernel, _, rfl, _, _, _, _, rfl, rfl, ht, at1, .inr ⟨_, rfl, dig_log d9, _, rfl, ?_⟩⟩
      rw [dig_str d9, empty_app]
      refine ⟨by rw [sizeLine_eq, len_app, l5, len_dg]; omega, ?_⟩
      exact ⟨D, _, _, rfl, rfl, fin.1, fin.2.1, fin.2.2⟩
    | call h c =>
      obtain ⟨t, y, z, u, rfl, ht, hy, hz, hu⟩ := dp3 hb
      cases dp_str hy
      cases dp_int hz
      obtain ⟨t2, y2, z2, rfl, ht2, hy2, hz2⟩ := dp2 hu
      cases dp_str hy2
      cases dp_int hz2
      have d9 : 0 ≤ h ∧ h ≤ 9 := ⟨okc.1.1, by have := okc.1.2; omega⟩
      have d8 : 0 ≤ c.2 ∧ c.2 ≤ 9 := ⟨okc.2.2.1, by have := okc.2.2.2; omega⟩
      have n8 := okc.2.1.2.1
      refine ⟨_, rfl, _, _, _, _, rfl, rfl, ht, at0, rfl, _, rfl, iteT ?_⟩
      refine ⟨_, rfl, .inl ⟨rfl, _, .of hD2⟩, ?_⟩
      refine ⟨_, rfl, by rw [sizeLine_eq]; decide +kernel, _, rfl, _, _, _, _, rfl, rfl, ht, at1, .inr ⟨_, rfl, dig_log d9, _, rfl, ?_⟩⟩
      rw [dig_str d9, empty_app]
      refine ⟨by rw [sizeLine_eq, len_app, l6, len_dg]; omega, _, rfl, by rw [sizeLine_eq, len_app, len_app, l6, len_dg, l1]; omega, ?_⟩
      refine ⟨_, rfl, _, _, _, _, rfl, rfl, ht, at2, _, _, _, _, rfl, rfl, ht2, at0, .inl ⟨_, rfl, by rw [sizeLine_eq]; omega, _, rfl, by rw [sizeLine_eq, len_app, len_app, len_app, l6, len_dg, l1]; omega, ?_⟩⟩
      refine ⟨_, rfl, by rw [sizeLine_eq, len_app, len_app, len_app, len_app, l6, len_dg, l1]; omega, ?_⟩
      refine ⟨_, rfl, _, _, _, _, rfl, rfl, ht, at2, _, _, _, _, rfl, rfl, ht2, at1, .inr ⟨_, rfl, dig_log d8, _, rfl, ?_⟩⟩
      rw [dig_str d8]
      refine ⟨by rw [sizeLine_eq, len_app, len_app, len_app, len_app, len_app, l6, len_dg, len_dg, l1]; omega, ?_⟩
      have el : ("call " : Str) ++ dg h ++ (" " : Str) ++ c.1 ++ (" " : Str) ++ dg c.2 = itemL (.call h c) := TL.ext_tl (by
        show _ = TL.tl (("call " : Str) ++ dg h ++ (" " : Str) ++ (c.1 ++ (" " : Str) ++ dg c.2))
        simp only [TL.tl_append, List.append_assoc])
      rw [el]
      exact ⟨D, _, _, rfl, rfl, fin.1, fin.2.1, fin.2.2⟩
  · rintro σ' H1 ⟨x2, x3, rfl, s, hD⟩
    rw [show cs.take xs.length = cs from by rw [lx, List.take_length]] at hD
    refine ⟨⟨_, rfl⟩, _, rfl, _, D, cs.map itemL, rfl, rfl, .inl (.of hD), ?_, q H1 s⟩
    have h1 := sum_len (ss := cs.map itemL) (k := 20) fun x hx => by
      obtain ⟨c, hc, rfl⟩ := List.mem_map.mp hx
      exact (itemL_line (ok c hc)).2.2
    have e0 : ("\n" : Str).length = 1 := by decide +kernel
    rw [List.length_map] at h1
    rw [e0, List.length_map]
    omega
def spReadWv (K : PySem.W.Frag) : Sp := fun vs H Q _ => ∃ (cs : List Itm), vs = [.str (Txt.join ("\n" : Str) (cs.map itemL))] ∧ cs.length ≤ 1000 ∧ (∀ c ∈ cs, ItemOk c) ∧ ∀ (z : Addr) (ys : List V) (H' : Hp), Same H H' → H z = none → H' z = some (.lst ys) → DpAll K H' ys (cs.map itemD) → Q (.ref z) H'
theorem ca_read_weaving (T : Txt w K mg) : Ca P w K mg base 10 "read_weaving" (spReadWv K) := by
  refine ca_of (N := ["text"]) (ps := ["text"]) T.f_read_weaving T.g_read_weaving ⟨rfl, rfl, rfl, by decide +kernel, rfl, by decide +kernel, by decide +kernel⟩ (fun _ _ _ _ _ _ us hl => match us, hl with | [_], _ => rfl)
    (fun vs H Q E h => by obtain ⟨cs, rfl, hl, ok, q⟩ := h; rfl) (fun cdv A outer s H vs Q E hr h => ?_)
  have nd : (["text"] : List Str).Nodup := by decide +kernel
  obtain ⟨cs, rfl, hl, ok, q⟩ := h
  refine ⟨_, (pss_one (ps_ret (pe_ca (ca_read_items ((cf_item_in T).mono (by decide)) T) hr (pa_cons (pv 0) (pa_cons (pe_gr T.g_item_in) pa_nil))))), ?_⟩
  refine ⟨_, rfl, cs.map itemL, cs.map itemD, rfl, by rw [List.length_map, List.length_map], by rw [List.length_map]; exact hl, fun l h => ?_, fun d h => ?_, fun i l d el ed => ?_, q⟩
  · obtain ⟨c, hc, rfl⟩ := List.mem_map.mp h
    have := itemL_line (ok c hc)
    exact ⟨this.1, this.2.1, by omega⟩
  · obtain ⟨c, hc, rfl⟩ := List.mem_map.mp h
    exact itemD_noL c
  · obtain ⟨c, hc, rfl⟩ := get_mapC el
    rw [List.getElem?_map, hc] at ed
    cases (Option.some.inj ed)
    have okc := ok c (List.mem_of_getElem? hc)
    intro J ws Q' E' hJ k
    rw [split_item okc] at hJ
    exact ⟨ws, c, rfl, .of hJ, okc, k⟩
end

end M

set_option Elab.async false
set_option linter.all false
set_option maxRecDepth 100000
set_option maxHeartbeats 2000000
namespace M
open PySem PySem.Spec PyProof.Rows L2

/-! ### plain data: tuples of texts and whole numbers -/
inductive Plain : Nat → PyData → Prop where
  | str {n : Nat} {x : Str} (h : PyData.strOk x = true) : Plain (n + 1) (.str x)
  | int {n : Nat} {i : Int} : Plain (n + 1) (.int i)
  | tup {n : Nat} {ds : List PyData} (h : ∀ d ∈ ds, Plain n d) (l : ds.length ≤ 1000) : Plain (n + 1) (.tuple ds)
theorem plain_lay : ∀ {n : Nat} {d : PyData}, Plain n d → d.canLay0 = true ∧ d.depth ≤ n ∧ PyData.eqv d d = true
  | _, _, .str h => ⟨by rw [PyData.canLay0]; exact h, by rw [PyData.depth]; exact Nat.zero_le _, by simp [PyData.eqv]⟩
  | _, _, .int => ⟨by rw [PyData.canLay0], by rw [PyData.depth]; exact Nat.zero_le _, by simp [PyData.eqv]⟩
  | n + 1, .tuple ds, .tup h _ => by
    have z : ∀ ds : List PyData, (∀ d ∈ ds, Plain n d) → PyData.canLayAll0 ds = true ∧ PyData.depthAll ds ≤ n ∧ PyData.eqvAll ds ds = true := by
      intro ds
      induction ds with
      | nil => exact fun _ => ⟨by rw [PyData.canLayAll0], by rw [PyData.depthAll]; exact Nat.zero_le _, by rw [PyData.eqvAll]⟩
      | cons d r ih =>
        intro h
        obtain ⟨a1, a2, a3⟩ := plain_lay (h d List.mem_cons_self)
        obtain ⟨b1, b2, b3⟩ := ih fun x hx => h x (List.mem_cons_of_mem _ hx)
        exact ⟨by rw [PyData.canLayAll0, a1, b1]; rfl, by rw [PyData.depthAll]; exact Nat.max_le.mpr ⟨a2, b2⟩, by rw [PyData.eqvAll, a3, b3]; rfl⟩
    obtain ⟨a, b, c⟩ := z ds h
    exact ⟨by rw [PyData.canLay0]; exact a, by rw [PyData.depth]; omega, by rw [PyData.eqv]; exact c⟩
theorem plain_list {n : Nat} {ds : List PyData} (hn : n ≤ 60) (h : ∀ d ∈ ds, Plain n d) : SeqAt.shaped (.list ds) = true ∧ PyData.eqv (.list ds) (.list ds) = true := by
  have z : PyData.canLayAll0 ds = true ∧ PyData.depthAll ds ≤ n ∧ PyData.eqvAll ds ds = true := by
    induction ds with
    | nil => exact ⟨by rw [PyData.canLayAll0], by rw [PyData.depthAll]; exact Nat.zero_le _, by rw [PyData.eqvAll]⟩
    | cons d r ih =>
      obtain ⟨a1, a2, a3⟩ := plain_lay (h d List.mem_cons_self)
      obtain ⟨b1, b2, b3⟩ := ih fun x hx => h x (List.mem_cons_of_mem _ hx)
      exact ⟨by rw [PyData.canLayAll0, a1, b1]; rfl, by rw [PyData.depthAll]; exact Nat.max_le.mpr ⟨a2, b2⟩, by rw [PyData.eqvAll, a3, b3]; rfl⟩
  refine ⟨?_, by rw [PyData.eqv]; exact z.2.2⟩
  unfold SeqAt.shaped
  rw [Bool.and_eq_true]
  refine ⟨by rw [PyData.canLay0]; exact z.1, decide_eq_true ?_⟩
  rw [PyData.depth]
  have := z.2.1
  omega
theorem name_strOk {s : Str} (h : NameOk s) : PyData.strOk s = true := by
  unfold PyData.strOk
  rw [Array.all_eq_true_iff_forall_mem]
  intro x hx
  have := h.2.2 x (Array.mem_toList_iff.mpr hx)
  exact decide_eq_true (by omega)
theorem plain_call {c : Str × Int} (h : CallOk c) : Plain 2 (callD c) := .tup (fun d hd => by
  simp at hd
  rcases hd with rfl | rfl
  · exact .str (name_strOk h.1)
  · exact .int) (by show 2 ≤ 1000; decide)
theorem plain_up : ∀ {n m : Nat} {d : PyData}, Plain n d → n ≤ m → Plain m d
  | _, m + 1, _, .str h, _ => .str h
  | _, m + 1, _, .int, _ => .int
  | _, m + 1, _, .tup h l, hm => .tup (fun d hd => plain_up (h d hd) (by omega)) l
  | _, 0, _, .str h, hm => absurd hm (by omega)
  | _, 0, _, .int, hm => absurd hm (by omega)
  | _, 0, _, .tup h l, hm => absurd hm (by omega)
theorem plain_item {t : Itm} (h : ItemOk t) : Plain 3 (itemD t) := by
  cases t with
  | step hd =>
    refine .tup (fun d hd => ?_) (by show 2 ≤ 1000; decide)
    simp at hd
    rcases hd with rfl | rfl
    · exact .str (by decide +kernel)
    · exact .int
  | call hd c =>
    refine .tup (fun d hd => ?_) (by show 3 ≤ 1000; decide)
    simp at hd
    rcases hd with rfl | rfl | rfl
    · exact .str (by decide +kernel)
    · exact .int
    · exact plain_call h.2
theorem true_map {zs : List V} (h : ∀ (i : Nat) (y : V), zs[i]? = some y → y = .bl true) : zs = (List.replicate zs.length true).map V.bl := by
  rw [List.map_replicate]
  refine List.eq_replicate_iff.mpr ⟨rfl, fun y hy => ?_⟩
  obtain ⟨i, hi, e⟩ := List.mem_iff_getElem.mp hy
  exact h i y (by rw [List.getElem?_eq_getElem hi, e])
theorem true_all (n : Nat) : (List.replicate n true).all id = true := by
  rw [List.all_eq_true]
  intro x hx
  exact (List.mem_replicate.mp hx).2
section
variable {P : Program} {w : World} {K : PySem.W.Frag} {mg : Str → Option Value} {base : Heap}
def spS17 (K : PySem.W.Frag) (n : Nat) : Sp := fun vs H Q _ => ∃ (x y : V) (d : PyData), vs = [x, y] ∧ Dp K H x d ∧ Dp K H y d ∧ Plain n d ∧ ∀ H', Same H H' → Q (.bl true) H'
theorem ca_l_same : ∀ (n : Nat) (T : Txt w K mg), Ca P w K mg base (n + 1) "_law_same" (spS17 K n)
  | 0, T => by
    refine ca_of (N := ["_law_one", "_law_due", "_law_k"]) (ps := ["_law_one", "_law_due"]) T.f_l_same T.g_law_same ⟨rfl, rfl, rfl, by decide +kernel, rfl, by decide +kernel, by decide +kernel⟩ (fun _ _ _ _ _ _ us hl => match us, hl with | [_, _], _ => rfl)
      (fun vs H Q E h => by obtain ⟨x, y, d, rfl, hx, hy, hd, q⟩ := h; rfl) (fun cdv A outer s H vs Q E hr h => ?_)
    have nd : (["_law_one", "_law_due", "_law_k"] : List Str).Nodup := by decide +kernel
    obtain ⟨x, y, d, rfl, hx, hy, hd, q⟩ := h
    cases hd
  | n + 1, T => by
    refine ca_of (N := ["_law_one", "_law_due", "_law_k"]) (ps := ["_law_one", "_law_due"]) T.f_l_same T.g_law_same ⟨rfl, rfl, rfl, by decide +kernel, rfl, by decide +kernel, by decide +kernel⟩ (fun _ _ _ _ _ _ us hl => match us, hl with | [_, _], _ => rfl)
      (fun vs H Q E h => by obtain ⟨x, y, d, rfl, hx, hy, hd, q⟩ := h; rfl) (fun cdv A outer s H vs Q E hr h => ?_)
    have nd : (["_law_one", "_law_due", "_law_k"] : List Str).Nodup := by decide +kernel
    obtain ⟨x, y, d, rfl, hx, hy, hd, q⟩ := h
    refine ⟨_, (pss_cons (ps_if (pt_val (pe_is .tuple T.b_isinstance (pv 1) T.b_tuple boot_tuple)) (pss_cons (ps_if (PW.pt (pw_or (pt_not (pt_val (pe_is .tuple T.b_isinstance (pv 0) T.b_tuple boot_tuple))) (pw_or1 (pt_cmpR op_ne (pe_callB call_len_seq (by rfl) T.b_len PySem.boot_len (pa_cons (pv 0) pa_nil)) (pe_callB call_len_seq (by rfl) T.b_len PySem.boot_len (pa_cons (pv 1) pa_nil)) (nomark _))))) (pss_one (ps_ret pe_bl)) pss_nil)
      (pss_one (ps_ret (pe_callB (cr_all rfl) (by rfl) T.b_all boot_all (pa_cons (pe_lc (own := [("_law_k", 2)]) (tt := tYes) rfl nd (pi_range1 rfl T.b_range (pa_cons (pe_callB call_len_seq (by rfl) T.b_len PySem.boot_len (pa_cons (pv 1) pa_nil)) pa_nil)) (blkOk_by (N := ["_law_one", "_law_due", "_law_k"]) (sc := defScope s_l_same) (by decide +kernel)) (fun _ _ _ _ _ => pg_name (i := 2) nd rfl (.inl rfl)) (fun _ _ _ _ _ => pts_nil) (fun _ _ _ _ _ => pe_ca (ca_l_same n T) hr (pa_cons (pe_ix (ix_tupK K rfl) (pv 0) (pv 2) (fun _ _ => rfl)) (pa_cons (pe_ix (ix_tupK K rfl) (pv 1) (pv 2) (fun _ _ => rfl)) pa_nil)) (by omega))) pa_nil))))) pss_nil)
      (pss_cons (ps_if (pt_val (pe_is .str T.b_isinstance (pv 1) T.b_str boot_str)) (pss_one (ps_ret (pe_and (pe_is .str T.b_isinstance (pv 0) T.b_str boot_str) (pe_one (pe_cmpR op_eq (pv 0) (pv 1) (nomark _)))))) pss_nil)
      (pss_one (ps_ret (pe_and (pe_is .int T.b_isinstance (pv 0) T.b_int boot_int) (pe_and (pe_not (pe_is .bool T.b_isinstance (pv 0) T.b_bool boot_bool)) (pe_one (pe_cmpR op_eq (pv 0) (pv 1) (nomark _))))))))), ?_⟩
    have kx := dp_kd hx
    have ky := dp_kd hy
    cases hd with
    | str h =>
      cases dp_str hx
      cases dp_str hy
      refine ⟨_, rfl, _, _, rfl, .str _, _, rfl, iteF ⟨_, rfl, _, _, rfl, .str _, _, rfl, iteT ⟨_, rfl, _, _, rfl, .str _, _, rfl, iteT ⟨_, rfl, _, rfl, rfl, ?_⟩⟩⟩⟩
      rw [decide_eq_true rfl]
      exact q H (Same.refl _)
    | int =>
      cases dp_int hx
      cases dp_int hy
      refine ⟨_, rfl, _, _, rfl, .int _, _, rfl, iteF ⟨_, rfl, _, _, rfl, .int _, _, rfl, iteF ⟨_, rfl, _, _, rfl, .int _, _, rfl, iteT ⟨_, rfl, _, _, rfl, .int _, _, rfl, _, rfl, iteT ⟨_, rfl, _, rfl, rfl, ?_⟩⟩⟩⟩⟩
      rw [decide_eq_true rfl]
      exact q H (Same.refl _)
    | @tup _ ds hds hl =>
      obtain ⟨a, xs, rfl, ha, hxs⟩ := dp_tup hx
      obtain ⟨b, ys, rfl, hb, hys⟩ := dp_tup hy
      have lx := dps_len hxs
      have ly := dps_len hys
      refine ⟨_, rfl, _, _, rfl, .tuple hb, _, rfl, iteT ⟨_, rfl, _, _, rfl, .tuple ha, _, rfl, iteF ⟨_, rfl, _, _, rfl, .inr ha, _, rfl, _, _, rfl, .inr hb, rfl, _, rfl, ?_⟩⟩⟩
      rw [decide_eq_true (show V.int (xs.length : Nat) = V.int (ys.length : Nat) from by rw [lx, ly])]
      refine iteF ⟨_, rfl, _, _, rfl, .inr hb, _, rfl, by omega, by omega, fun D nD => ?_⟩
      refine lc_out (n := ys.length) walk_range nD (by omega) (fun i y H => y = .bl true) (fun _ _ _ _ _ _ h => h) (fun H' s => trivial) (fun i x H' H2 N F hi s y k => ?_) (fun H1 zs s1 hD el hz => ?_)
      · obtain ⟨rfl, rfl⟩ := y
        have ei : (0 : Int) + (i : Nat) = ((i : Nat) : Int) := by omega
        obtain ⟨u, hu, du⟩ := dps_at hxs (List.getElem?_eq_getElem (by omega : i < ds.length))
        obtain ⟨v, hv, dv⟩ := dps_at hys (List.getElem?_eq_getElem (by omega : i < ds.length))
        refine ⟨rfl, iteT ⟨_, rfl, _, rfl, _, _, _, _, rfl, rfl, same_t s ha, by rw [ei]; exact atI_nat hu, _, rfl, _, rfl, _, _, _, _, rfl, rfl, same_t s hb, by rw [ei]; exact atI_nat hv, ?_⟩⟩
        exact ⟨u, v, ds[i], rfl, dp_same s du, dp_same s dv, hds _ (List.getElem_mem _), fun H4 s4 => k _ _ s4 rfl⟩
      · have e := true_map hz
        refine ⟨D, List.replicate zs.length true, rfl, by rw [← e]; exact .of hD, ?_⟩
        rw [true_all]
        exact q H1 s1
def spIsList (K : PySem.W.Frag) : Sp := fun vs H Q _ => ∃ (a b : Addr) (xs ys : List V) (ds : List PyData), vs = [.ref a, .ref b] ∧ SqL K H a xs ∧ DpAll K H xs ds ∧ SqL K H b ys ∧ DpAll K H ys ds ∧ ds.length ≤ 1000 ∧ (∀ d ∈ ds, Plain 4 d) ∧ ∀ H', Same H H' → Q (.bl true) H'
theorem ca_l_is_list (T : Txt w K mg) : Ca P w K mg base 7 "_law_is_list" (spIsList K) := by
  refine ca_of (N := ["_law_one", "_law_due"]) (ps := ["_law_one", "_law_due"]) T.f_l_is_list T.g_law_is_list ⟨rfl, rfl, rfl, by decide +kernel, rfl, by decide +kernel, by decide +kernel⟩ (fun _ _ _ _ _ _ us hl => match us, hl with | [_, _], _ => rfl)
    (fun vs H Q E h => by obtain ⟨a, b, xs, ys, ds, rfl, ha, hxs, hb, hys, hl, hp, q⟩ := h; rfl) (fun cdv A outer s H vs Q E hr h => ?_)
  have nd : (["_law_one", "_law_due"] : List Str).Nodup := by decide +kernel
  obtain ⟨a, b, xs, ys, ds, rfl, ha, hxs, hb, hys, hl, hp, q⟩ := h
  refine ⟨_, (pss_one (ps_ret (pe_and (pe_is .list T.b_isinstance (pv 0) T.b_list boot_list) (pe_one (pe_ca (ca_l_same 5 T) hr (pa_cons (pe_tupleOf (by rfl) T.b_tuple (pv 0)) (pa_cons (pe_tupleOf (by rfl) T.b_tuple (pv 1)) pa_nil))))))), ?_⟩
  refine ⟨_, rfl, _, _, rfl, .list ha, _, rfl, iteT ?_⟩
  refine ⟨_, rfl, .inl ⟨a, xs, rfl, ha, fun t nt => ?_⟩⟩
  have s1 := same_new (o := .tup xs) nt
  refine ⟨_, rfl, .inl ⟨b, ys, rfl, s1.seq hb, fun u nu => ?_⟩⟩
  have s2 := same_new (o := .tup ys) nu
  exact ⟨.ref t, .ref u, .tuple ds, rfl, .tup (.of (s2 _ _ upd_same)) (dps_same (s1.trans s2) hxs), .tup (.of upd_same) (dps_same (s1.trans s2) hys), .tup hp hl, fun H' s => q H' ((s1.trans s2).trans s)⟩
/-! ### states -/
def StOk (hs : List Int) : Prop := 1 ≤ hs.length ∧ hs.length ≤ 6 ∧ ∀ h ∈ hs, 0 ≤ h ∧ h ≤ 8
def spAnySt (K : PySem.W.Frag) : Sp := fun vs H Q _ => ∃ (a : Addr) (hs : List Int), vs = [.ref a] ∧ SqT K H a (hs.map .int) ∧ StOk hs ∧ Q (.bl true) H
theorem ca_is_any_state (T : Txt w K mg) : Ca P w K mg base 3 "is_any_state" (spAnySt K) := by
  refine ca_of (N := ["value", "held"]) (ps := ["value"]) T.f_is_any_state T.g_is_any_state ⟨rfl, rfl, rfl, by decide +kernel, rfl, by decide +kernel, by decide +kernel⟩ (fun _ _ _ _ _ _ us hl => match us, hl with | [_], _ => rfl)
    (fun vs H Q E h => by obtain ⟨a, hs, rfl, ha, ok, q⟩ := h; rfl) (fun cdv A outer s H vs Q E hr h => ?_)
  have nd : (["value", "held"] : List Str).Nodup := by decide +kernel
  obtain ⟨a, hs, rfl, ha, ok, q⟩ := h
  refine ⟨_, (pss_cons (ps_if (PW.pt (pw_or (pt_not (pt_val (pe_is .tuple T.b_isinstance (pv 0) T.b_tuple boot_tuple))) (pw_or1 (pt_not (pt_chain op_le op_le pe_int (pe_callB call_len_seq (by rfl) T.b_len PySem.boot_len (pa_cons (pv 0) pa_nil)) (pe_gi T.i_MOST_CELLS)))))) (pss_one (ps_ret pe_bl)) pss_nil)
      (pss_cons (ps_for PassesOwn.never rfl (pi_tup (pv 0)) (pg_name (i := 1) nd rfl (.inl rfl)) (pss_one (ps_if (pt_not (pt_val (pe_ca (ca_is_within T) hr (pa_cons (pv 1) (pa_cons pe_int (pa_cons (pe_op op_sub (pe_gi T.i_GREATEST_SIZE) pe_int) pa_nil)))))) (pss_one (ps_ret pe_bl)) pss_nil)))
      (pss_one (ps_ret pe_bl)))), ?_⟩
  have l1 := ok.1
  have l6 := ok.2.1
  refine ⟨_, rfl, _, _, rfl, .tuple ha, _, rfl, iteF ?_⟩
  refine ⟨_, rfl, _, _, rfl, .inr ha, _, _, rfl, rfl, _, rfl, ?_⟩
  rw [List.length_map, decide_eq_true (show (1 : Int) ≤ (hs.length : Int) from by omega)]
  refine iteT ⟨_, _, rfl, rfl, _, rfl, ?_⟩
  rw [decide_eq_true (show (hs.length : Int) ≤ 6 from by omega)]
  refine iteF ⟨_, rfl, a, rfl, ⟨_, ha⟩, for_it (n := (hs.map V.int).length) walk_tup (fun i σ' H' => ∃ x, σ' = [some (.ref a), x] ∧ H' = H) ⟨none, rfl, rfl⟩ (fun i σ' H' _ ⟨_, _, e⟩ => e ▸ ha) ?_ ?_⟩
  · rintro i x σ' H' H2 hi ⟨_, rfl, rfl⟩ ⟨rfl, hx⟩
    obtain ⟨z, hz, rfl⟩ := get_map hx
    have b := ok.2.2 z (List.mem_of_getElem? hz)
    refine ⟨_, rfl, _, _, rfl, rfl, z, 0, _, rfl, _, rfl, ?_⟩
    rw [within_t ⟨b.1, by show z ≤ 9 - 1; omega⟩]
    exact iteF ⟨_, rfl, rfl⟩
  · rintro σ' H' ⟨_, rfl, rfl⟩
    exact q
theorem dgs_join {hs : List Int} (h : StOk hs) : (Txt.join (" " : Str) (hs.map dg)).length ≤ 12 ∧ Txt.split (Txt.join (" " : Str) (hs.map dg)) (" " : Str) = hs.map dg := by
  have l1 : (" " : Str).length = 1 := by decide +kernel
  have j := join_len (y := (" " : Str)) (ls := hs.map dg) (k := 1) fun l hl => by
    obtain ⟨i, _, rfl⟩ := List.mem_map.mp hl
    exact Nat.le_refl 1
  rw [l1, List.length_map] at j
  have l6 := h.2.1
  refine ⟨by omega, TL.split_join tl_sp sp_all (fun e => ?_) fun p hp => ?_⟩
  · have := congrArg List.length e
    rw [List.length_map] at this
    have := h.1
    simp_all
  · obtain ⟨i, hi, rfl⟩ := List.mem_map.mp hp
    exact dg_free (h.2.2 i hi) (by decide)
theorem map_eq {α β : Type} {zs : List β} {xs : List α} {f : α → β} (l : zs.length = xs.length) (h : ∀ (i : Nat) (y : β), zs[i]? = some y → ∃ x, xs[i]? = some x ∧ y = f x) : zs = xs.map f := by
  refine List.ext_getElem? fun i => ?_
  rw [List.getElem?_map]
  by_cases c : i < zs.length
  · have e := List.getElem?_eq_getElem c
    obtain ⟨x, h1, h2⟩ := h i _ e
    rw [h1, e, h2]
    rfl
  · rw [List.getElem?_eq_none (by omega), List.getElem?_eq_none (by omega)]
    rfl
def spStTx (K : PySem.W.Frag) : Sp := fun vs H Q _ => ∃ (a : Addr) (hs : List Int), vs = [.ref a] ∧ SqT K H a (hs.map .int) ∧ StOk hs ∧ ∀ H', Same H H' → Q (.str (Txt.join (" " : Str) (hs.map dg))) H'
theorem ca_state_text (T : Txt w K mg) : Ca P w K mg base 4 "state_text" (spStTx K) := by
  refine ca_of (N := ["state", "held"]) (ps := ["state"]) T.f_state_text T.g_state_text ⟨rfl, rfl, rfl, by decide +kernel, rfl, by decide +kernel, by decide +kernel⟩ (fun _ _ _ _ _ _ us hl => match us, hl with | [_], _ => rfl)
    (fun vs H Q E h => by obtain ⟨a, hs, rfl, ha, ok, q⟩ := h; rfl) (fun cdv A outer s H vs Q E hr h => ?_)
  have nd : (["state", "held"] : List Str).Nodup := by decide +kernel
  obtain ⟨a, hs, rfl, ha, ok, q⟩ := h
  refine ⟨_, (pss_cons (ps_if (pt_not (pt_val (pe_ca (ca_is_any_state T) hr (pa_cons (pv 0) pa_nil)))) (pss_one ps_never) pss_nil)
      (pss_one (ps_ret (pe_join pe_str (pe_lc (own := [("held", 1)]) (tt := tYes) rfl nd (pi_tup (pv 0)) (blkOk_by (N := ["state", "held"]) (sc := defScope s_state_text) (by decide +kernel)) (fun _ _ _ _ _ => pg_name (i := 1) nd rfl (.inl rfl)) (fun _ _ _ _ _ => pts_nil) (fun _ _ _ _ _ => pe_callTy call_str_int (by rfl) T.b_str boot_str (pa_cons (pv 1) pa_nil))))))), ?_⟩
  have l6 := ok.2.1
  refine ⟨_, rfl, a, hs, rfl, ha, ok, _, rfl, iteF ?_⟩
  refine ⟨⟨_, rfl⟩, _, rfl, a, rfl, ⟨_, ha⟩, fun D nD => ?_⟩
  refine lc_out (n := (hs.map V.int).length) walk_tup nD (by rw [List.length_map]; omega) (fun i y H => ∃ h, hs[i]? = some h ∧ y = .str (dg h)) (fun _ _ _ _ _ _ h => h) (fun H' s => same_t s ha) (fun i x H' H2 N F hi s y k => ?_) (fun H1 zs s1 hD el hz => ?_)
  · obtain ⟨rfl, hx⟩ := y
    obtain ⟨z, hz, rfl⟩ := get_map hx
    have b := ok.2.2 z (List.mem_of_getElem? hz)
    refine ⟨rfl, iteT ⟨_, rfl, _, rfl, dig_log ⟨b.1, by omega⟩, ?_⟩⟩
    rw [dig_str ⟨b.1, by omega⟩]
    exact k _ _ (Same.refl _) ⟨z, hz, rfl⟩
  · rw [List.length_map] at el
    have e : zs = (hs.map dg).map V.str := by
      rw [List.map_map]
      exact map_eq el hz
    rw [e] at hD
    refine ⟨_, D, hs.map dg, rfl, rfl, .inl (.of hD), ?_, q H1 s1⟩
    have h1 := sum_len (ss := hs.map dg) (k := 1) fun x hx => by
      obtain ⟨c, hc, rfl⟩ := List.mem_map.mp hx
      exact Nat.le_refl 1
    have l1 : (" " : Str).length = 1 := by decide +kernel
    rw [List.length_map] at h1
    rw [l1, List.length_map]
    omega
def spStRd (K : PySem.W.Frag) : Sp := fun vs H Q _ => ∃ (hs : List Int), vs = [.str (Txt.join (" " : Str) (hs.map dg))] ∧ StOk hs ∧ ∀ (t : Addr) (H' : Hp), Same H H' → H' t = some (.tup (hs.map .int)) → Q (.ref t) H'
theorem ca_read_state (T : Txt w K mg) : Ca P w K mg base 4 "read_state" (spStRd K) := by
  refine ca_of (N := ["text", "word", "state"]) (ps := ["text"]) T.f_read_state T.g_read_state ⟨rfl, rfl, rfl, by decide +kernel, rfl, by decide +kernel, by decide +kernel⟩ (fun _ _ _ _ _ _ us hl => match us, hl with | [_], _ => rfl)
    (fun vs H Q E h => by obtain ⟨hs, rfl, ok, q⟩ := h; rfl) (fun cdv A outer s H vs Q E hr h => ?_)
  have nd : (["text", "word", "state"] : List Str).Nodup := by decide +kernel
  obtain ⟨hs, rfl, ok, q⟩ := h
  refine ⟨_, (pss_cons (ps_if (pt_not (pt_val (pe_is .str T.b_isinstance (pv 0) T.b_str boot_str))) (pss_one ps_never) pss_nil)
      (pss_cons (ps_set (i := 2) nd rfl (.inl rfl) (pe_tupleOf (by rfl) T.b_tuple (pe_lc (own := [("word", 1)]) (tt := tYes) rfl nd (pi_list (pe_split (pv 0) pe_str)) (blkOk_by (N := ["text", "word", "state"]) (sc := defScope s_read_state) (by decide +kernel)) (fun _ _ _ _ _ => pg_name (i := 1) nd rfl (.inl rfl)) (fun _ _ _ _ _ => pts_nil) (fun _ _ _ _ _ => pe_ca (ca_number_in T) hr (pa_cons (pv 1) pa_nil)))))
      (pss_cons (ps_if (pt_not (pt_val (pe_ca (ca_is_any_state T) hr (pa_cons (pv 2) pa_nil)))) (pss_one ps_never) pss_nil)
      (pss_one (ps_ret (pv 2)))))), ?_⟩
  have l6 := ok.2.1
  obtain ⟨j1, j2⟩ := dgs_join ok
  refine ⟨_, rfl, _, _, rfl, .str _, _, rfl, iteF ?_⟩
  refine ⟨_, rfl, ⟨_, rfl⟩, _, _, rfl, rfl, (by decide +kernel), by rw [sizeLine_eq]; omega, fun p np => ?_⟩
  rw [j2]
  have s0 := same_new (o := .lst ((hs.map dg).map V.str)) np
  have hp : upd H p (.lst ((hs.map dg).map V.str)) p = some (.lst ((hs.map dg).map V.str)) := upd_same
  generalize upd H p (.lst ((hs.map dg).map V.str)) = G at s0 hp ⊢
  refine ⟨p, rfl, ⟨_, .of hp⟩, fun D nD => ?_⟩
  refine lc_out (n := ((hs.map dg).map V.str).length) walk_list nD (by rw [List.length_map, List.length_map]; omega) (fun i y H => ∃ h, hs[i]? = some h ∧ y = .int h) (fun _ _ _ _ _ _ h => h) (fun H' s => .of (s _ _ hp)) (fun i x H' H2 N F hi s y k => ?_) (fun H1 zs s1 hD el hz => ?_)
  · obtain ⟨rfl, hx⟩ := y
    rw [List.map_map] at hx
    obtain ⟨z, hz, rfl⟩ := get_mapC hx
    exact ⟨rfl, iteT ⟨_, rfl, z, rfl, ok.2.2 z (List.mem_of_getElem? hz), k _ _ (Same.refl _) ⟨z, hz, rfl⟩⟩⟩
  · rw [List.length_map, List.length_map] at el
    have e : zs = hs.map V.int := map_eq el hz
    subst e
    refine .inl ⟨D, _, rfl, .of hD, fun t nt => ?_⟩
    have s2 := same_new (o := .tup (hs.map V.int)) nt
    exact ⟨_, rfl, t, hs, rfl, .of upd_same, ok, _, rfl, iteF ⟨_, rfl, q t _ ((s0.trans s1).trans s2) upd_same⟩⟩
end

end M

set_option Elab.async false
set_option linter.all false
set_option maxRecDepth 100000
set_option maxHeartbeats 2000000
namespace M
open PySem PySem.Spec PyProof.Rows L2

section
variable {P : Program} {w : World} {K : PySem.W.Frag} {mg : Str → Option Value} {base : Heap}
def spLRow (K : PySem.W.Frag) : Sp := fun vs H Q _ => ∃ (r : Addr) (xs : List V) (cs : List (Str × Int)), vs = [.ref r] ∧ SqL K H r xs ∧ DpAll K H xs (cs.map callD) ∧ (∀ c ∈ cs, CallOk c) ∧ cs.length ≤ 900 ∧ ∀ H', Same H H' → Q (.bl true) H'
theorem ca_l_row (T : Txt w K mg) : Ca P w K mg base 11 "_law_row" (spLRow K) := by
  refine ca_of (N := ["_law_row_here", "_law_given", "_law_call_here", "_law_text", "_law_told", "_law_back"]) (ps := ["_law_row_here"]) T.f_l_row T.g_law_row ⟨rfl, rfl, rfl, by decide +kernel, rfl, by decide +kernel, by decide +kernel⟩ (fun _ _ _ _ _ _ us hl => match us, hl with | [_], _ => rfl)
    (fun vs H Q E h => by obtain ⟨r, xs, cs, rfl, hr', hxs, ok, hl, q⟩ := h; rfl) (fun cdv A outer s H vs Q E hr h => ?_)
  have nd : (["_law_row_here", "_law_given", "_law_call_here", "_law_text", "_law_told", "_law_back"] : List Str).Nodup := by decide +kernel
  obtain ⟨r, xs, cs, rfl, hr', hxs, ok, hl, q⟩ := h
  refine ⟨_, (pss_cons (ps_set (i := 1) nd rfl (.inl rfl) (pe_callTy call_list_of (by rfl) T.b_list boot_list (pa_cons (pv 0) pa_nil)))
      (pss_cons (ps_set (i := 3) nd rfl (.inl rfl) (pe_join pe_str (pe_lc (own := [("_law_call_here", 2)]) (tt := tYes) rfl nd (pi_list (pv 0)) (blkOk_by (N := ["_law_row_here", "_law_given", "_law_call_here", "_law_text", "_law_told", "_law_back"]) (sc := defScope s_l_row) (by decide +kernel)) (fun _ _ _ _ _ => pg_name (i := 2) nd rfl (.inl rfl)) (fun _ _ _ _ _ => pts_nil) (fun _ _ _ _ _ => pe_ca (ca_l_call_line T) hr (pa_cons (pv 2) pa_nil)))))
      (pss_cons (ps_set (i := 4) nd rfl (.inl rfl) (pe_ca (ca_row_text T) hr (pa_cons (pv 1) pa_nil)))
      (pss_cons (ps_if (PW.pt (pw_or (pt_not (pt_val (pe_is .str T.b_isinstance (pv 4) T.b_str boot_str))) (pw_or (pt_cmpR op_ne (pv 4) (pv 3) (nomark _)) (pw_or1 (pt_cmpR (op_neD hr.units) (pv 1) (pv 0) (nomark _)))))) (pss_one (ps_ret pe_bl)) pss_nil)
      (pss_cons (ps_set (i := 5) nd rfl (.inl rfl) (pe_ca (ca_read_row T) hr (pa_cons (pv 3) pa_nil)))
      (pss_cons (ps_if (pt_not (pt_val (pe_ca (ca_l_is_list T) hr (pa_cons (pv 5) (pa_cons (pv 0) pa_nil))))) (pss_one (ps_ret pe_bl)) pss_nil)
      (pss_cons (ps_expr (pe_bm PySem.F.plainAttrs_list PySem.F.slot_list_append PySem.F.type_list_append mt_append (pv 5) (pa_cons (pe_tup (pa_cons pe_str (pa_cons pe_int pa_nil))) pa_nil)))
      (pss_cons (ps_expr (pe_bm PySem.F.plainAttrs_list PySem.F.slot_list_append PySem.F.type_list_append mt_append (pv 1) (pa_cons (pe_tup (pa_cons pe_str (pa_cons pe_int pa_nil))) pa_nil)))
      (pss_one (ps_ret (pe_and (pe_ca (ca_l_is_list T) hr (pa_cons (pe_ca (ca_read_row T) hr (pa_cons (pv 3) pa_nil)) (pa_cons (pv 0) pa_nil))) (pe_one (pe_cmpR op_eq (pe_ca (ca_row_text T) hr (pa_cons (pe_callTy call_list_of (by rfl) T.b_list boot_list (pa_cons (pv 0) pa_nil)) pa_nil)) (pv 3) (nomark _)))))))))))))), ?_⟩
  have lx : xs.length = cs.length := by rw [dps_len hxs, List.length_map]
  refine ⟨_, rfl, r, _, rfl, .inl hr', fun g ng => ?_⟩
  have s0 := same_new (o := .lst xs) ng
  have hg : upd H g (.lst xs) g = some (.lst xs) := upd_same
  generalize upd H g (.lst xs) = H0 at s0 hg ⊢
  refine ⟨⟨_, rfl⟩, _, rfl, r, rfl, ⟨_, s0.seq hr'⟩, fun D nD => ?_⟩
  refine lc_out (n := xs.length) walk_list nD (by omega) (fun i y H => ∃ c, cs[i]? = some c ∧ y = .str (callL c)) (fun _ _ _ _ _ _ h => h) (fun H' s => s.seq (s0.seq hr')) (fun i x H' H2 N F hi s y k => ?_) (fun H1 zs s1 hD el hz => ?_)
  · obtain ⟨rfl, ex⟩ := y
    obtain ⟨dd, ed, hdd⟩ := dps_get hxs ex
    obtain ⟨c, ec, rfl⟩ := get_mapC ed
    exact ⟨rfl, iteT ⟨_, rfl, x, c, rfl, dp_same (s0.trans s) hdd, ok c (List.mem_of_getElem? ec), k _ _ (Same.refl _) ⟨c, ec, rfl⟩⟩⟩
  have e : zs = (cs.map callL).map V.str := by
    rw [List.map_map]
    exact map_eq (by omega) hz
  subst e
  clear hz el
  have jl : ((cs.map callL).map (·.length)).sum ≤ 16000000 := by
    have h1 := sum_len (ss := cs.map callL) (k := 10) fun x hx => by
      obtain ⟨c, hc, rfl⟩ := List.mem_map.mp hx
      exact (callL_line (ok c hc)).2.2
    rw [List.length_map] at h1
    omega
  have e0 : ("\n" : Str).length = 1 := by decide +kernel
  refine ⟨_, D, cs.map callL, rfl, rfl, .inl (.of hD), by rw [e0, List.length_map]; omega, ?_⟩
  have s01 := s0.trans s1
  have pl : ∀ d ∈ cs.map callD, Plain 4 d := fun d hd => by
    obtain ⟨c, hc, rfl⟩ := List.mem_map.mp hd
    exact plain_up (plain_call (ok c hc)) (by decide)
  obtain ⟨p1, p2⟩ := plain_list (by decide) pl
  refine ⟨_, rfl, g, xs, cs, rfl, .of (s1 _ _ hg), dps_same s01 hxs, ok, by omega, fun H2 s2 => ?_⟩
  have s02 := s01.trans s2
  have s12 := s1.trans s2
  refine ⟨_, rfl, _, _, rfl, .str _, _, rfl, iteF ?_⟩
  refine ⟨_, rfl, _, rfl, rfl, _, rfl, ?_⟩
  rw [decide_eq_true (show V.str (Txt.join ("\n" : Str) (cs.map callL)) = V.str (Txt.join ("\n" : Str) (cs.map callL)) from rfl)]
  refine iteF ⟨_, rfl, _, rfl, .list (cs.map callD), .list (cs.map callD), .lst (.of (s12 _ _ hg)) (dps_same s02 hxs), .lst (s02.seq hr') (dps_same s02 hxs), p1, p1, _, rfl, ?_⟩
  rw [p2]
  refine iteF ?_
  have ld : (cs.map callD).length ≤ 1000 := by rw [List.length_map]; omega
  refine ⟨_, rfl, cs, rfl, by omega, ok, fun z zs H3 s3 nz hz hzs => ?_⟩
  have s03 := s02.trans s3
  refine ⟨_, rfl, _, rfl, z, r, zs, xs, cs.map callD, rfl, .of hz, hzs, s03.seq hr', dps_same s03 hxs, ld, pl, fun H4 s4 => ⟨_, rfl, iteF ?_⟩⟩
  have hz4 := s4 _ _ hz
  have lz : zs.length = cs.length := by rw [dps_len hzs, List.length_map]
  refine ⟨_, rfl, .inl ⟨rfl, _, .of hz4⟩, (by show 2 ≤ sizeLine; decide), fun t nt => ?_⟩
  have s5 := same_new (o := .tup [.str "z", .int 0]) nt
  refine ⟨z, zs, _, rfl, rfl, s5 _ _ hz4, by rw [sizeLine_eq]; omega, ?_⟩
  have s25 : Same H2 (upd (upd H4 t (.tup [.str "z", .int 0])) z (.lst (zs ++ [.ref t]))) := fun b o e => by
    rw [upd_ne (ne_of_none e nz)]
    exact s5 _ _ (s4 _ _ (s3 _ _ e))
  generalize upd (upd H4 t (.tup [.str "z", .int 0])) z (.lst (zs ++ [.ref t])) = H5 at s25 ⊢
  have hg5 := s25 _ _ (s12 _ _ hg)
  refine ⟨_, rfl, .inl ⟨rfl, _, .of hg5⟩, (by show 2 ≤ sizeLine; decide), fun t2 nt2 => ?_⟩
  have s6 := same_new (o := .tup [.str "z", .int 0]) nt2
  refine ⟨g, xs, _, rfl, rfl, s6 _ _ hg5, by rw [sizeLine_eq]; omega, ?_⟩
  have s07 : Same H (upd (upd H5 t2 (.tup [.str "z", .int 0])) g (.lst (xs ++ [.ref t2]))) := fun b o e => by
    rw [upd_ne (ne_of_none e ng)]
    exact s6 _ _ (s25 _ _ (s02 _ _ e))
  generalize upd (upd H5 t2 (.tup [.str "z", .int 0])) g (.lst (xs ++ [.ref t2])) = H7 at s07 ⊢
  refine ⟨_, rfl, cs, rfl, by omega, ok, fun z2 zs2 H8 s8 nz2 hz2 hzs2 => ?_⟩
  have s08 := s07.trans s8
  refine ⟨_, rfl, z2, r, zs2, xs, cs.map callD, rfl, .of hz2, hzs2, s08.seq hr', dps_same s08 hxs, ld, pl, fun H9 s9 => ⟨_, rfl, iteT ?_⟩⟩
  have s09 := s08.trans s9
  refine ⟨_, rfl, r, _, rfl, .inl (s09.seq hr'), fun g2 ng2 => ?_⟩
  have s10 := same_new (o := .lst xs) ng2
  have s010 := s09.trans s10
  refine ⟨g2, xs, cs, rfl, .of upd_same, dps_same s010 hxs, ok, by omega, fun H11 s11 => ⟨_, rfl, rfl, ?_⟩⟩
  rw [decide_eq_true (show V.str (Txt.join ("\n" : Str) (cs.map callL)) = V.str (Txt.join ("\n" : Str) (cs.map callL)) from rfl)]
  exact q H11 (s010.trans s11)
def spLWv (K : PySem.W.Frag) : Sp := fun vs H Q _ => ∃ (r : Addr) (xs : List V) (cs : List Itm), vs = [.ref r] ∧ SqL K H r xs ∧ DpAll K H xs (cs.map itemD) ∧ (∀ c ∈ cs, ItemOk c) ∧ cs.length ≤ 900 ∧ ∀ H', Same H H' → Q (.bl true) H'
theorem ca_l_weaving (T : Txt w K mg) : Ca P w K mg base 11 "_law_weaving" (spLWv K) := by
  refine ca_of (N := ["_law_weaving_here", "_law_given", "_law_item_here", "_law_text", "_law_told", "_law_back"]) (ps := ["_law_weaving_here"]) T.f_l_weaving T.g_law_weaving ⟨rfl, rfl, rfl, by decide +kernel, rfl, by decide +kernel, by decide +kernel⟩ (fun _ _ _ _ _ _ us hl => match us, hl with | [_], _ => rfl)
    (fun vs H Q E h => by obtain ⟨r, xs, cs, rfl, hr', hxs, ok, hl, q⟩ := h; rfl) (fun cdv A outer s H vs Q E hr h => ?_)
  have nd : (["_law_weaving_here", "_law_given", "_law_item_here", "_law_text", "_law_told", "_law_back"] : List Str).Nodup := by decide +kernel
  obtain ⟨r, xs, cs, rfl, hr', hxs, ok, hl, q⟩ := h
  refine ⟨_, (pss_cons (ps_set (i := 1) nd rfl (.inl rfl) (pe_callTy call_list_of (by rfl) T.b_list boot_list (pa_cons (pv 0) pa_nil)))
      (pss_cons (ps_set (i := 3) nd rfl (.inl rfl) (pe_join pe_str (pe_lc (own := [("_law_item_here", 2)]) (tt := tYes) rfl nd (pi_list (pv 0)) (blkOk_by (N := ["_law_weaving_here", "_law_given", "_law_item_here", "_law_text", "_law_told", "_law_back"]) (sc := defScope s_l_weaving) (by decide +kernel)) (fun _ _ _ _ _ => pg_name (i := 2) nd rfl (.inl rfl)) (fun _ _ _ _ _ => pts_nil) (fun _ _ _ _ _ => pe_ca (ca_l_item_line T) hr (pa_cons (pv 2) pa_nil)))))
      (pss_cons (ps_set (i := 4) nd rfl (.inl rfl) (pe_ca (ca_weaving_text T) hr (pa_cons (pv 1) pa_nil)))
      (pss_cons (ps_if (PW.pt (pw_or (pt_not (pt_val (pe_is .str T.b_isinstance (pv 4) T.b_str boot_str))) (pw_or (pt_cmpR op_ne (pv 4) (pv 3) (nomark _)) (pw_or1 (pt_cmpR (op_neD hr.units) (pv 1) (pv 0) (nomark _)))))) (pss_one (ps_ret pe_bl)) pss_nil)
      (pss_cons (ps_set (i := 5) nd rfl (.inl rfl) (pe_ca (ca_read_weaving T) hr (pa_cons (pv 3) pa_nil)))
      (pss_cons (ps_if (pt_not (pt_val (pe_ca (ca_l_is_list T) hr (pa_cons (pv 5) (pa_cons (pv 0) pa_nil))))) (pss_one (ps_ret pe_bl)) pss_nil)
      (pss_cons (ps_expr (pe_bm PySem.F.plainAttrs_list PySem.F.slot_list_append PySem.F.type_list_append mt_append (pv 5) (pa_cons (pe_tup (pa_cons pe_str (pa_cons pe_int pa_nil))) pa_nil)))
      (pss_one (ps_ret (pe_and (pe_ca (ca_l_is_list T) hr (pa_cons (pe_ca (ca_read_weaving T) hr (pa_cons (pv 3) pa_nil)) (pa_cons (pv 0) pa_nil))) (pe_one (pe_cmpR op_eq (pe_ca (ca_weaving_text T) hr (pa_cons (pe_callTy call_list_of (by rfl) T.b_list boot_list (pa_cons (pv 0) pa_nil)) pa_nil)) (pv 3) (nomark _))))))))))))), ?_⟩
  have lx : xs.length = cs.length := by rw [dps_len hxs, List.length_map]
  refine ⟨_, rfl, r, _, rfl, .inl hr', fun g ng => ?_⟩
  have s0 := same_new (o := .lst xs) ng
  have hg : upd H g (.lst xs) g = some (.lst xs) := upd_same
  generalize upd H g (.lst xs) = H0 at s0 hg ⊢
  refine ⟨⟨_, rfl⟩, _, rfl, r, rfl, ⟨_, s0.seq hr'⟩, fun D nD => ?_⟩
  refine lc_out (n := xs.length) walk_list nD (by omega) (fun i y H => ∃ c, cs[i]? = some c ∧ y = .str (itemL c)) (fun _ _ _ _ _ _ h => h) (fun H' s => s.seq (s0.seq hr')) (fun i x H' H2 N F hi s y k => ?_) (fun H1 zs s1 hD el hz => ?_)
  · obtain ⟨rfl, ex⟩ := y
    obtain ⟨dd, ed, hdd⟩ := dps_get hxs ex
    obtain ⟨c, ec, rfl⟩ := get_mapC ed
    exact ⟨rfl, iteT ⟨_, rfl, x, c, rfl, dp_same (s0.trans s) hdd, ok c (List.mem_of_getElem? ec), k _ _ (Same.refl _) ⟨c, ec, rfl⟩⟩⟩
  have e : zs = (cs.map itemL).map V.str := by
    rw [List.map_map]
    exact map_eq (by omega) hz
  subst e
  clear hz el
  have jl : ((cs.map itemL).map (·.length)).sum ≤ 16000000 := by
    have h1 := sum_len (ss := cs.map itemL) (k := 20) fun x hx => by
      obtain ⟨c, hc, rfl⟩ := List.mem_map.mp hx
      exact (itemL_line (ok c hc)).2.2
    rw [List.length_map] at h1
    omega
  have e0 : ("\n" : Str).length = 1 := by decide +kernel
  refine ⟨_, D, cs.map itemL, rfl, rfl, .inl (.of hD), by rw [e0, List.length_map]; omega, ?_⟩
  have s01 := s0.trans s1
  have pl : ∀ d ∈ cs.map itemD, Plain 4 d := fun d hd => by
    obtain ⟨c, hc, rfl⟩ := List.mem_map.mp hd
    exact plain_up (plain_item (ok c hc)) (by decide)
  obtain ⟨p1, p2⟩ := plain_list (by decide) pl
  refine ⟨_, rfl, g, xs, cs, rfl, .of (s1 _ _ hg), dps_same s01 hxs, ok, by omega, fun H2 s2 => ?_⟩
  have s02 := s01.trans s2
  have s12 := s1.trans s2
  refine ⟨_, rfl, _, _, rfl, .str _, _, rfl, iteF ?_⟩
  refine ⟨_, rfl, _, rfl, rfl, _, rfl, ?_⟩
  rw [decide_eq_true (show V.str (Txt.join ("\n" : Str) (cs.map itemL)) = V.str (Txt.join ("\n" : Str) (cs.map itemL)) from rfl)]
  refine iteF ⟨_, rfl, _, rfl, .list (cs.map itemD), .list (cs.map itemD), .lst (.of (s12 _ _ hg)) (dps_same s02 hxs), .lst (s02.seq hr') (dps_same s02 hxs), p1, p1, _, rfl, ?_⟩
  rw [p2]
  refine iteF ?_
  have ld : (cs.map itemD).length ≤ 1000 := by rw [List.length_map]; omega
  refine ⟨_, rfl, cs, rfl, by omega, ok, fun z zs H3 s3 nz hz hzs => ?_⟩
  have s03 := s02.trans s3
  refine ⟨_, rfl, _, rfl, z, r, zs, xs, cs.map itemD, rfl, .of hz, hzs, s03.seq hr', dps_same s03 hxs, ld, pl, fun H4 s4 => ⟨_, rfl, iteF ?_⟩⟩
  have hz4 := s4 _ _ hz
  have lz : zs.length = cs.length := by rw [dps_len hzs, List.length_map]
  refine ⟨_, rfl, .inl ⟨rfl, _, .of hz4⟩, (by show 2 ≤ sizeLine; decide), fun t nt => ?_⟩
  have s5 := same_new (o := .tup [.str "step", .int 0]) nt
  refine ⟨z, zs, _, rfl, rfl, s5 _ _ hz4, by rw [sizeLine_eq]; omega, ?_⟩
  have s25 : Same H2 (upd (upd H4 t (.tup [.str "step", .int 0])) z (.lst (zs ++ [.ref t]))) := fun b o e => by
    rw [upd_ne (ne_of_none e nz)]
    exact s5 _ _ (s4 _ _ (s3 _ _ e))
  generalize upd (upd H4 t (.tup [.str "step", .int 0])) z (.lst (zs ++ [.ref t])) = H7 at s25 ⊢
  have s07 := s02.trans s25
  refine ⟨_, rfl, cs, rfl, by omega, ok, fun z2 zs2 H8 s8 nz2 hz2 hzs2 => ?_⟩
  have s08 := s07.trans s8
  refine ⟨_, rfl, z2, r, zs2, xs, cs.map itemD, rfl, .of hz2, hzs2, s08.seq hr', dps_same s08 hxs, ld, pl, fun H9 s9 => ⟨_, rfl, iteT ?_⟩⟩
  have s09 := s08.trans s9
  refine ⟨_, rfl, r, _, rfl, .inl (s09.seq hr'), fun g2 ng2 => ?_⟩
  have s10 := same_new (o := .lst xs) ng2
  have s010 := s09.trans s10
  refine ⟨g2, xs, cs, rfl, .of upd_same, dps_same s010 hxs, ok, by omega, fun H11 s11 => ⟨_, rfl, rfl, ?_⟩⟩
  rw [decide_eq_true (show V.str (Txt.join ("\n" : Str) (cs.map itemL)) = V.str (Txt.join ("\n" : Str) (cs.map itemL)) from rfl)]
  exact q H11 (s010.trans s11)
def spLSt (K : PySem.W.Frag) : Sp := fun vs H Q _ => ∃ (a : Addr) (hs : List Int), vs = [.ref a] ∧ SqT K H a (hs.map .int) ∧ StOk hs ∧ ∀ H', Same H H' → Q (.bl true) H'
theorem ca_l_state (T : Txt w K mg) : Ca P w K mg base 11 "_law_state" (spLSt K) := by
  refine ca_of (N := ["_law_state_here", "_law_held", "_law_text", "_law_told"]) (ps := ["_law_state_here"]) T.f_l_state T.g_law_state ⟨rfl, rfl, rfl, by decide +kernel, rfl, by decide +kernel, by decide +kernel⟩ (fun _ _ _ _ _ _ us hl => match us, hl with | [_], _ => rfl)
    (fun vs H Q E h => by obtain ⟨a, hs, rfl, ha, ok, q⟩ := h; rfl) (fun cdv A outer s H vs Q E hr h => ?_)
  have nd : (["_law_state_here", "_law_held", "_law_text", "_law_told"] : List Str).Nodup := by decide +kernel
  obtain ⟨a, hs, rfl, ha, ok, q⟩ := h
  refine ⟨_, (pss_cons (ps_set (i := 2) nd rfl (.inl rfl) (pe_join pe_str (pe_lc (own := [("_law_held", 1)]) (tt := tYes) rfl nd (pi_tup (pv 0)) (blkOk_by (N := ["_law_state_here", "_law_held", "_law_text", "_law_told"]) (sc := defScope s_l_state) (by decide +kernel)) (fun _ _ _ _ _ => pg_name (i := 1) nd rfl (.inl rfl)) (fun _ _ _ _ _ => pts_nil) (fun _ _ _ _ _ => pe_callTy call_str_int (by rfl) T.b_str boot_str (pa_cons (pv 1) pa_nil)))))
      (pss_cons (ps_set (i := 3) nd rfl (.inl rfl) (pe_ca (ca_state_text T) hr (pa_cons (pv 0) pa_nil)))
      (pss_one (ps_ret (pe_and (pe_is .str T.b_isinstance (pv 3) T.b_str boot_str) (pe_and (pe_cmpR op_eq (pv 3) (pv 2) (nomark _)) (pe_one (pe_ca (ca_l_same 2 T) hr (pa_cons (pe_ca (ca_read_state T) hr (pa_cons (pv 2) pa_nil)) (pa_cons (pv 0) pa_nil)))))))))), ?_⟩
  have l6 := ok.2.1
  refine ⟨⟨_, rfl⟩, _, rfl, a, rfl, ⟨_, ha⟩, fun D nD => ?_⟩
  refine lc_out (n := (hs.map V.int).length) walk_tup nD (by rw [List.length_map]; omega) (fun i y H => ∃ h, hs[i]? = some h ∧ y = .str (dg h)) (fun _ _ _ _ _ _ h => h) (fun H' s => same_t s ha) (fun i x H' H2 N F hi s y k => ?_) (fun H1 zs s1 hD el hz => ?_)
  · obtain ⟨rfl, hx⟩ := y
    obtain ⟨z, hz, rfl⟩ := get_map hx
    have b := ok.2.2 z (List.mem_of_getElem? hz)
    refine ⟨rfl, iteT ⟨_, rfl, _, rfl, dig_log ⟨b.1, by omega⟩, ?_⟩⟩
    rw [dig_str ⟨b.1, by omega⟩]
    exact k _ _ (Same.refl _) ⟨z, hz, rfl⟩
  · rw [List.length_map] at el
    have e : zs = (hs.map dg).map V.str := by
      rw [List.map_map]
      exact map_eq el hz
    rw [e] at hD
    have jl : ((hs.map dg).map (·.length)).sum ≤ 6 := by
      have h1 := sum_len (ss := hs.map dg) (k := 1) fun x hx => by
        obtain ⟨c, hc, rfl⟩ := List.mem_map.mp hx
        exact Nat.le_refl 1
      rw [List.length_map] at h1
      omega
    have l1 : (" " : Str).length = 1 := by decide +kernel
    refine ⟨_, D, hs.map dg, rfl, rfl, .inl (.of hD), by rw [l1, List.length_map]; omega, ?_⟩
    refine ⟨_, rfl, a, hs, rfl, same_t s1 ha, ok, fun H2 s2 => ?_⟩
    have s02 := s1.trans s2
    refine ⟨_, rfl, _, _, rfl, .str _, _, rfl, iteT ⟨_, rfl, _, rfl, rfl, _, rfl, ?_⟩⟩
    rw [decide_eq_true (show V.str (Txt.join (" " : Str) (hs.map dg)) = V.str (Txt.join (" " : Str) (hs.map dg)) from rfl)]
    refine iteT ⟨_, rfl, hs, rfl, ok, fun t H3 s3 ht => ⟨_, rfl, ?_⟩⟩
    refine ⟨.ref t, .ref a, .tuple (hs.map .int), rfl, .tup (.of ht) ints_dps, .tup (same_t (s02.trans s3) ha) ints_dps, .tup (fun d hd => ?_) (by rw [List.length_map]; omega), fun H4 s4 => q H4 ((s02.trans s3).trans s4)⟩
    obtain ⟨i, _, rfl⟩ := List.mem_map.mp hd
    exact .int
end

end M

set_option Elab.async false
set_option linter.all false
set_option maxRecDepth 100000
set_option maxHeartbeats 2000000
namespace M
open PySem PySem.Spec PyProof.Rows L2

theorem cut_one (xs : List V) : cutV xs none (some 1) = xs.take 1 := by
  unfold cutV
  rw [show (some (1 : Int)) = some ((1 : Nat) : Int) from rfl, HT.sIx_nat, HT.sIx_none]
  cases xs with
  | nil => rfl
  | cons x r =>
    rw [List.length_cons, Nat.min_eq_left (by omega)]
    rfl
theorem cut_rest (xs : List V) : cutV xs (some 1) none = xs.drop 1 := by
  unfold cutV
  rw [show (some (1 : Int)) = some ((1 : Nat) : Int) from rfl, HT.sIx_nat, HT.sIx_none]
  cases xs with
  | nil => rfl
  | cons x r =>
    rw [List.length_cons, Nat.min_eq_left (by omega)]
    exact List.take_of_length_le (by rw [List.length_drop, List.length_cons]; exact Nat.le_refl _)
theorem dps_rep {K : PySem.W.Frag} {H : Hp} {xs : List V} {ds : List PyData} (h : DpAll K H xs ds) : ∀ k : Nat, DpAll K H (List.replicate k xs).flatten (List.replicate k ds).flatten
  | 0 => .nil
  | k + 1 => by
    rw [List.replicate_succ, List.flatten_cons, List.replicate_succ, List.flatten_cons]
    exact dps_app h (dps_rep h k)
theorem rep_map {α β : Type} (f : α → β) (l : List α) (k : Nat) : (List.replicate k (l.map f)).flatten = ((List.replicate k l).flatten).map f := by
  rw [List.map_flatten, List.map_replicate]
theorem rep_len {α : Type} (l : List α) (k : Nat) : ((List.replicate k l).flatten).length = k * l.length := by
  rw [List.length_flatten, List.map_replicate, List.sum_replicate_nat]
theorem rep_mem {α : Type} {l : List α} {k : Nat} {x : α} (h : x ∈ (List.replicate k l).flatten) : x ∈ l := by
  obtain ⟨m, hm, hx⟩ := List.mem_flatten.mp h
  rw [(List.mem_replicate.mp hm).2] at hx
  exact hx
theorem dps_take {K : PySem.W.Frag} {H : Hp} : ∀ {xs : List V} {ds : List PyData} (n : Nat), DpAll K H xs ds → DpAll K H (xs.take n) (ds.take n)
  | _, _, 0, _ => .nil
  | _, _, n + 1, .nil => .nil
  | _, _, n + 1, .cons h r => .cons h (dps_take n r)
theorem dps_drop {K : PySem.W.Frag} {H : Hp} : ∀ {xs : List V} {ds : List PyData} (n : Nat), DpAll K H xs ds → DpAll K H (xs.drop n) (ds.drop n)
  | _, _, 0, h => h
  | _, _, n + 1, .nil => .nil
  | _, _, n + 1, .cons h r => dps_drop n r
section
variable {P : Program} {w : World} {K : PySem.W.Frag} {mg : Str → Option Value} {base : Heap}
def spLaw (K : PySem.W.Frag) : Sp := fun vs H Q _ => ∃ (a : Addr) (ns : List Int), vs = [.ref a] ∧ SqL K H a (ns.map V.int) ∧ ns.length ≤ 63 ∧ ∀ H', Q (.bl true) H'
theorem ok_law {fd : FuncData} (T : Txt w K mg) (F : FunD K "law" "law" (defArgs s_law) (defBody s_law) (defScope s_law) [] [] (He.fAd K ("law", none)) fd) : FnOk P w K mg base CX0 13 (He.fAd K ("law", none)) fd ["_law_script"] (spLaw K) := by
  refine fn_d (N := ["_law_script", "_law_pool_here", "_law_times", "_law_turn", "_law_state_here", "_law_calls", "_law_items", "_law_row_here", "_law_weaving_here"]) (ps := ["_law_script"]) F ⟨rfl, rfl, rfl, by decide +kernel, rfl, by decide +kernel, by decide +kernel⟩
    (fun vs H Q E h => by obtain ⟨a, ns, rfl, ha, hl, q⟩ := h; rfl) (fun cdv A outer s H vs Q E hr h => ?_)
  have nd : (["_law_script", "_law_pool_here", "_law_times", "_law_turn", "_law_state_here", "_law_calls", "_law_items", "_law_row_here", "_law_weaving_here"] : List Str).Nodup := by decide +kernel
  obtain ⟨a, ns, rfl, ha, hl, q⟩ := h
  refine ⟨_, (pss_cons (ps_set (i := 1) nd rfl (.inr rfl) (pe_ca (ca_l_pool T) hr (pa_cons (pv 0) (pa_cons pe_int pa_nil))))
      (pss_cons (ps_set (i := 2) nd rfl (.inl rfl) pe_int)
      (C8.pss_cut (ps_if (pt_cmpR op_eq (pe_ca (ca_l_draw T) hr (pa_cons (pv 1) (pa_cons pe_int pa_nil))) pe_int (nomark _)) (pss_one (ps_set (i := 2) nd rfl (.inl rfl) pe_int)) pss_nil)
      (pss_cons (ps_set (i := 4) nd rfl (.inl rfl) (pe_tupleOf (by rfl) T.b_tuple (pe_lc (own := [("_law_turn", 3)]) (tt := tYes) rfl nd (pi_range1 rfl T.b_range (pa_cons (pe_op op_add pe_int (pe_ca (ca_l_draw T) hr (pa_cons (pv 1) (pa_cons pe_int pa_nil)))) pa_nil)) (blkOk_by (N := ["_law_script", "_law_pool_here", "_law_times", "_law_turn", "_law_state_here", "_law_calls", "_law_items", "_law_row_here", "_law_weaving_here"]) (sc := defScope s_law) (by decide +kernel)) (fun _ _ _ _ _ => pg_name (i := 3) nd rfl (.inl rfl)) (fun _ _ _ _ _ => pts_nil) (fun _ _ _ _ _ => pe_ca (ca_l_draw T) hr (pa_cons (pv 1) (pa_cons pe_int pa_nil))))))
      (pss_cons (ps_set (i := 5) nd rfl (.inr rfl) (pe_ca (ca_l_pool T) hr (pa_cons (pv 0) (pa_cons pe_int pa_nil))))
      (pss_cons (ps_set (i := 6) nd rfl (.inr rfl) (pe_ca (ca_l_pool T) hr (pa_cons (pv 0) (pa_cons pe_int pa_nil))))
      (pss_cons (ps_setLc (i := 7) (own := [("_law_turn", 3)]) (tt := tYes) rfl nd rfl rfl (by rfl) (pi_range1 rfl T.b_range (pa_cons (pe_ca (ca_l_draw T) hr (pa_cons (pv 5) (pa_cons pe_int pa_nil))) pa_nil)) (blkOk_by (N := ["_law_script", "_law_pool_here", "_law_times", "_law_turn", "_law_state_here", "_law_calls", "_law_items", "_law_row_here", "_law_weaving_here"]) (sc := defScope s_law) (by decide +kernel)) (fun _ _ _ _ _ => pg_name (i := 3) nd rfl (.inl rfl)) (fun _ _ _ _ _ => pts_nil) (fun _ _ _ _ _ => pe_ca (ca_l_call T) hr (pa_cons (pv 5) pa_nil)))
      (pss_cons (ps_setLc (i := 8) (own := [("_law_turn", 3)]) (tt := tYes) rfl nd rfl rfl (by rfl) (pi_range1 rfl T.b_range (pa_cons (pe_ca (ca_l_draw T) hr (pa_cons (pv 6) (pa_cons pe_int pa_nil))) pa_nil)) (blkOk_by (N := ["_law_script", "_law_pool_here", "_law_times", "_law_turn", "_law_state_here", "_law_calls", "_law_items", "_law_row_here", "_law_weaving_here"]) (sc := defScope s_law) (by decide +kernel)) (fun _ _ _ _ _ => pg_name (i := 3) nd rfl (.inl rfl)) (fun _ _ _ _ _ => pts_nil) (fun _ _ _ _ _ => pe_ca (ca_l_item T) hr (pa_cons (pv 6) pa_nil)))
      (pss_cons (ps_if (PW.pt (pw_or (pt_not (pt_val (pe_ca (ca_l_row T) hr (pa_cons (pe_op op_rep (pv 7) (pv 2)) pa_nil)))) (pw_or1 (pt_not (pt_val (pe_ca (ca_l_weaving T) hr (pa_cons (pe_op op_rep (pv 8) (pv 2)) pa_nil))))))) (pss_one (ps_ret pe_bl)) pss_nil)
      (pss_one (ps_ret (pe_and (pe_ca (ca_l_state T) hr (pa_cons (pv 4) pa_nil)) (pe_and (pe_ca (ca_l_row T) hr (pa_cons (pe_slice sl_list (pv 7) po_none (po_some pe_int)) pa_nil)) (pe_one (pe_ca (ca_l_weaving T) hr (pa_cons (pe_slice sl_list (pv 8) (po_some pe_int) po_none) pa_nil)))))))))))))))), ?_⟩
  refine ⟨_, rfl, a, ns, 0, rfl, ha, hl, by omega, fun p H1 s1 np pp => ?_⟩
  refine ⟨fun σ' H' => ∃ k : Int, (k = 1 ∨ k = 20) ∧ σ' = [some (.ref a), some (.ref p), some (.int k), none, none, none, none, none, none] ∧ But p H1 H' ∧ PoolAt H' p, ?_, ?_⟩
  · refine ⟨_, rfl, p, 8, rfl, pp, by omega, fun c H2 b2 p2 hc => ⟨rfl, _, rfl, ?_⟩⟩
    by_cases e : c = 2
    · rw [decide_eq_true (show V.int c = V.int 2 from congrArg V.int e)]
      exact iteT ⟨20, .inr rfl, rfl, b2, p2⟩
    · rw [decide_eq_false (show ¬ V.int c = V.int 2 from fun z => e (V.int.inj z))]
      exact iteF ⟨1, .inl rfl, rfl, b2, p2⟩
  rintro σ' H2 ⟨k, hk, rfl, b2, p2⟩
  have hb : ∀ b o, H b = some o → b ≠ p := fun b o e => ne_of_none e np
  have s2 : Same H H2 := fun b o e => b2 _ _ (hb _ _ e) (s1 _ _ e)
  -- the state
  refine ⟨_, rfl, p, 6, rfl, p2, by omega, fun m H3 b3 p3 hm => ⟨_, _, rfl, rfl, _, rfl, by omega, by omega, fun D nD => ?_⟩⟩
  have s3 : Same H H3 := fun b o e => b3 _ _ (hb _ _ e) (s2 _ _ e)
  have nDp := pool_nl p3 nD
  have nDH := none_of s3 nD
  refine it_any (n := (1 + m).toNat) walk_range (fun i J => ∃ hs : List Int, Same H J ∧ PoolAt J p ∧ J D = some (.lst (hs.map V.int)) ∧ hs.length = i ∧ ∀ h ∈ hs, 0 ≤ h ∧ h ≤ 8) ⟨[], s3.trans (same_new nD), p3.same (same_new nD), upd_same, rfl, fun s h => nomatch h⟩ (fun _ _ _ _ => trivial) ?_ ?_
  · rintro j z J0 J hj ⟨hs, sj, pj, hD, el, hhs⟩ ⟨rfl, rfl⟩
    refine ⟨rfl, _, rfl, p, 9, rfl, pj, by omega, fun u J2 b6 p6 hu => ?_⟩
    have hD2 := b6 _ _ nDp hD
    have bb : But D J2 (upd J2 D (.lst (hs.map V.int ++ [.int u]))) := But.upd
    refine ⟨hs.map V.int, hD2, by rw [List.length_map, sizeLine_eq]; omega, hs ++ [u], fun b o e => bb _ _ (ne_of_none e nDH) (b6 _ _ (hb _ _ e) (sj _ _ e)), p6.but (Ne.symm nDp) bb, by rw [List.map_append]; exact upd_same, by simp [el], fun s hs2 => ?_⟩
    rcases List.mem_append.mp hs2 with h | h
    · exact hhs s h
    · rw [List.mem_singleton.mp h]
      omega
  rintro J3 ⟨hs, sj, pj, hD, el, hhs⟩
  refine .inl ⟨D, _, rfl, .of hD, fun st nst => ?_⟩
  have w1 := same_new (o := .tup (hs.map V.int)) nst
  have hst : upd J3 st (.tup (hs.map V.int)) st = some (.tup (hs.map V.int)) := upd_same
  have s4 := sj.trans w1
  generalize upd J3 st (.tup (hs.map V.int)) = H4 at w1 hst s4 ⊢
  have stok : StOk hs := ⟨by omega, by omega, hhs⟩
  -- the pools
  refine ⟨_, rfl, a, ns, 1, rfl, s4.seq ha, hl, by omega, fun pc H5 s45 npc ppc => ?_⟩
  refine ⟨_, rfl, a, ns, 2, rfl, (s4.trans s45).seq ha, hl, by omega, fun pi H6 s56 npi ppi => ?_⟩
  have ppc6 := ppc.same s56
  have npcpi : pc ≠ pi := by
    obtain ⟨_, hh⟩ := ppc.at
    exact ne_of_none hh npi
  -- the row
  refine ⟨_, rfl, pc, 21, rfl, ppc6, by omega, fun n1 H7 b7 p7 hn1 => ⟨n1, rfl, by omega, by omega, fun R nR => ?_⟩⟩
  have nRpc := pool_nl p7 nR
  have nR6 : H6 R = none := by
    cases e : H6 R with
    | none => rfl
    | some o => rw [b7 _ _ nRpc e] at nR; cases nR
  refine it_any (n := n1.toNat) walk_range (fun i J => ∃ (xs : List V) (cs : List (Str × Int)), But pc H6 J ∧ PoolAt J pc ∧ J R = some (.lst xs) ∧ DpAll K J xs (cs.map callD) ∧ cs.length = i ∧ ∀ c ∈ cs, CallOk c) ⟨[], [], b7.trans (same_but (same_new nR)), p7.same (same_new nR), upd_same, .nil, rfl, fun c h => nomatch h⟩ (fun _ _ _ _ => trivial) ?_ ?_
  · rintro j z J0 J hj ⟨xs, cs, bj, pj, hR, hxs, el2, hcs⟩ ⟨rfl, rfl⟩
    refine ⟨rfl, _, rfl, pc, rfl, pj, fun t c J2 b8 p8 ht okc => ?_⟩
    have hR2 := b8 _ _ nRpc hR
    have lx : xs.length = cs.length := by rw [dps_len hxs, List.length_map]
    have bb : But R J2 (upd J2 R (.lst (xs ++ [.ref t]))) := But.upd
    have nl : ∀ d ∈ cs.map callD, NoL d := fun d hd => by
      obtain ⟨c, _, rfl⟩ := List.mem_map.mp hd
      exact callD_noL c
    refine ⟨xs, hR2, by rw [sizeLine_eq]; omega, xs ++ [.ref t], cs ++ [c], fun b o n e => bb _ _ (ne_of_none e nR6) (b8 _ _ n (bj _ _ n e)), p8.but (Ne.symm nRpc) bb, upd_same, ?_, by simp [el2], fun d hd => ?_⟩
    · rw [List.map_append]
      exact dps_app (dps_but (.lst hR2) bb (dps_but pj.ch b8 hxs nl) nl) (.cons (dp_but (.lst hR2) bb ht (callD_noL c)) .nil)
    · rcases List.mem_append.mp hd with h | h
      · exact hcs d h
      · rw [List.mem_singleton.mp h]
        exact okc
  rintro H8 ⟨xs, cs, b68, pc8, hR, hxs, lcs, hcs⟩
  have ppi8 : PoolAt H8 pi := ppi.but (Ne.symm npcpi) b68
  have nRpi : R ≠ pi := by
    obtain ⟨_, hh⟩ := ppi.at
    exact Ne.symm (ne_of_none hh nR6)
  have hpc4 : H4 pc = none := npc
  have s48 : Same H4 H8 := fun b o e => b68 _ _ (ne_of_none e hpc4) ((s45.trans s56) _ _ e)
  -- the weaving
  refine ⟨_, rfl, pi, 21, rfl, ppi8, by omega, fun n2 H9 b9 p9 hn2 => ⟨n2, rfl, by omega, by omega, fun G nG => ?_⟩⟩
  have nGpi := pool_nl p9 nG
  have nG8 : H8 G = none := by
    cases e : H8 G with
    | none => rfl
    | some o => rw [b9 _ _ nGpi e] at nG; cases nG
  refine it_any (n := n2.toNat) walk_range (fun i J => ∃ (ys : List V) (ts : List Itm), But pi H8 J ∧ PoolAt J pi ∧ J G = some (.lst ys) ∧ DpAll K J ys (ts.map itemD) ∧ ts.length = i ∧ ∀ c ∈ ts, ItemOk c) ⟨[], [], b9.trans (same_but (same_new nG)), p9.same (same_new nG), upd_same, .nil, rfl, fun c h => nomatch h⟩ (fun _ _ _ _ => trivial) ?_ ?_
  · rintro j z J0 J hj ⟨ys, ts, bj, pj, hG, hys, el2, hts⟩ ⟨rfl, rfl⟩
    refine ⟨rfl, _, rfl, pi, rfl, pj, fun t c J2 b8 p8 ht okc => ?_⟩
    have hG2 := b8 _ _ nGpi hG
    have ly : ys.length = ts.length := by rw [dps_len hys, List.length_map]
    have bb : But G J2 (upd J2 G (.lst (ys ++ [.ref t]))) := But.upd
    have nl : ∀ d ∈ ts.map itemD, NoL d := fun d hd => by
      obtain ⟨c, _, rfl⟩ := List.mem_map.mp hd
      exact itemD_noL c
    refine ⟨ys, hG2, by rw [sizeLine_eq]; omega, ys ++ [.ref t], ts ++ [c], fun b o n e => bb _ _ (ne_of_none e nG8) (b8 _ _ n (bj _ _ n e)), p8.but (Ne.symm nGpi) bb, upd_same, ?_, by simp [el2], fun d hd => ?_⟩
    · rw [List.map_append]
      exact dps_app (dps_but (.lst hG2) bb (dps_but pj.ch b8 hys nl) nl) (.cons (dp_but (.lst hG2) bb ht (itemD_noL c)) .nil)
    · rcases List.mem_append.mp hd with h | h
      · exact hts d h
      · rw [List.mem_singleton.mp h]
        exact okc
  rintro H10 ⟨ys, ts, b810, pi10, hG, hys, lts, hts⟩
  have hR10 := b810 _ _ nRpi hR
  have hxs10 : DpAll K H10 xs (cs.map callD) := dps_but ppi8.ch b810 hxs fun d hd => by
    obtain ⟨c, _, rfl⟩ := List.mem_map.mp hd
    exact callD_noL c
  have hst10 : H10 st = some (.tup (hs.map V.int)) := b810 _ _ (by
    obtain ⟨_, hh⟩ := ppi8.at
    exact ne_ho (s48 _ _ hst) hh fun e => nomatch e) (s48 _ _ hst)
  have lx : xs.length = cs.length := by rw [dps_len hxs10, List.length_map]
  have ly : ys.length = ts.length := by rw [dps_len hys, List.length_map]
  have c20 : cs.length ≤ 20 := by omega
  have t20 : ts.length ≤ 20 := by omega
  obtain ⟨kn, hkn, hk20⟩ : ∃ kn : Nat, k = (kn : Int) ∧ kn ≤ 20 := by
    rcases hk with rfl | rfl
    · exact ⟨1, rfl, by decide⟩
    · exact ⟨20, rfl, by decide⟩
  subst hkn
  have mul1 : kn * cs.length ≤ 400 := Nat.le_trans (Nat.mul_le_mul hk20 c20) (by decide)
  have mul2 : kn * ts.length ≤ 400 := Nat.le_trans (Nat.mul_le_mul hk20 t20) (by decide)
  refine ⟨_, rfl, _, rfl, R, kn, xs, rfl, rfl, hR10, by omega, by omega, by rw [lx, Int.toNat_natCast, Nat.mul_comm, sizeLine_eq]; omega, fun u nu => ?_⟩
  rw [Int.toNat_natCast]
  have w2 := same_new (o := .lst (List.replicate kn xs).flatten) nu
  have hu : upd H10 u (.lst (List.replicate kn xs).flatten) u = some (.lst (List.replicate kn xs).flatten) := upd_same
  generalize upd H10 u (.lst (List.replicate kn xs).flatten) = H11 at w2 hu ⊢
  have dr : ∀ J, Same H10 J → DpAll K J (List.replicate kn xs).flatten (((List.replicate kn cs).flatten).map callD) := fun J s => by
    rw [← rep_map]
    exact dps_rep (dps_same s hxs10) kn
  have dw : ∀ J, Same H10 J → DpAll K J (List.replicate kn ys).flatten (((List.replicate kn ts).flatten).map itemD) := fun J s => by
    rw [← rep_map]
    exact dps_rep (dps_same s hys) kn
  refine ⟨u, _, (List.replicate kn cs).flatten, rfl, .of hu, dr _ w2, (fun c hc => hcs c (rep_mem hc)), by rw [rep_len]; omega, fun H12 s12 => ⟨_, rfl, iteF ?_⟩⟩
  have s1012 := w2.trans s12
  refine ⟨_, rfl, _, rfl, G, kn, ys, rfl, rfl, s1012 _ _ hG, by omega, by omega, by rw [ly, Int.toNat_natCast, Nat.mul_comm, sizeLine_eq]; omega, fun u2 nu2 => ?_⟩
  rw [Int.toNat_natCast]
  have w3 := same_new (o := .lst (List.replicate kn ys).flatten) nu2
  have hu2 : upd H12 u2 (.lst (List.replicate kn ys).flatten) u2 = some (.lst (List.replicate kn ys).flatten) := upd_same
  generalize upd H12 u2 (.lst (List.replicate kn ys).flatten) = H13 at w3 hu2 ⊢
  have s1013 := s1012.trans w3
  refine ⟨u2, _, (List.replicate kn ts).flatten, rfl, .of hu2, dw _ s1013, (fun c hc => hts c (rep_mem hc)), by rw [rep_len]; omega, fun H14 s14 => ⟨_, rfl, iteF ?_⟩⟩
  have s1014 := s1013.trans s14
  refine ⟨_, rfl, st, hs, rfl, .of (s1014 _ _ hst10), stok, fun H15 s15 => ⟨_, rfl, iteT ?_⟩⟩
  have s1015 := s1014.trans s15
  refine ⟨_, rfl, _, rfl, R, _, rfl, .of (s1015 _ _ hR10), fun u3 nu3 => ?_⟩
  rw [cut_one]
  have w4 := same_new (o := .lst (xs.take 1)) nu3
  have hu3 : upd H15 u3 (.lst (xs.take 1)) u3 = some (.lst (xs.take 1)) := upd_same
  generalize upd H15 u3 (.lst (xs.take 1)) = H16 at w4 hu3 ⊢
  have s1016 := s1015.trans w4
  refine ⟨u3, _, cs.take 1, rfl, .of hu3, by rw [List.map_take]; exact dps_take 1 (dps_same s1016 hxs10), (fun c hc => hcs c (List.mem_of_mem_take hc)), by rw [List.length_take]; omega, fun H17 s17 => ⟨_, rfl, iteT ?_⟩⟩
  have s1017 := s1016.trans s17
  refine ⟨_, rfl, _, rfl, G, _, rfl, .of (s1017 _ _ hG), fun u4 nu4 => ?_⟩
  rw [cut_rest]
  have w5 := same_new (o := .lst (ys.drop 1)) nu4
  exact ⟨u4, _, ts.drop 1, rfl, .of upd_same, by rw [List.map_drop]; exact dps_drop 1 (dps_same (s1017.trans w5) hys), (fun c hc => hts c (List.mem_of_mem_drop hc)), by rw [List.length_drop]; omega, fun H18 s18 => q H18⟩
end

end M

open PySem PySem.W PySem.Calls PyProof.Rows
set_option maxRecDepth 100000 in
set_option maxHeartbeats 0 in
theorem PySem.Challenge.cw_pastless_k17_rows_weavings_states_as_tex_holds : PySem.Challenge.rw_pastless_k17_rows_weavings_states_as_tex.Holds := by
  w_on; o_law
  refine HandSHeadRun.head_any (r := OpenLaw.row PySem.Challenge.rw_pastless_k17_rows_weavings_states_as_tex) (q := view (OpenLaw.row PySem.Challenge.rw_pastless_k17_rows_weavings_states_as_tex).prog [45]) (H := M.hk) (ob := M.ob) (M := 8000) (loose := M.names) (d := HandSHeadRun.topDef (OpenLaw.row PySem.Challenge.rw_pastless_k17_rows_weavings_states_as_tex).prog 45) (kwd := []) M.ob_eq
    (by kernel_rfl) (fun s => by kernel_rfl) M.run (by kernel_rfl) (by kernel_rfl) (by kernel_rfl) (by rfl) (by first | assumption | decide +kernel) (by decide +kernel) ⟨rfl, rfl, rfl, rfl, rfl, by decide +kernel⟩ ?hw ?hc
  case hw => w_witness2
  case hc =>
    refine L2.walk_ofE (l := PySem.Challenge.rw_pastless_k17_rows_weavings_states_as_tex) (n := 63) (k := 13) (x := "_law_script") (CX := L2.CX0) rfl (by decide) (by kernel_rfl) ⟨rfl, by decide, by decide⟩ ?F (fun _ _ _ _ z => z)
    intro w mg fa h Y G hmg0
    obtain ⟨K, KX, c⟩ := Y
    have hmg : mg ("law" : PySem.Str) = some (.ref fa) := by
      have e : (HandSHeadRun.topDef (OpenLaw.row PySem.Challenge.rw_pastless_k17_rows_weavings_states_as_tex).prog 45).name = ("law" : PySem.Str) := by kernel_rfl
      rw [← e]
      exact hmg0
    have T : M.Txt w K mg := ⟨⟨h, c⟩, ⟨h, KX, G⟩⟩
    have e := hmg.symm.trans T.g_law
    cases e
    obtain ⟨fd, hF⟩ := T.f_law
    have b := fun s => L2.FunD.bindsA (ps := ["_law_script"]) hF (fun _ _ _ _ _ _ us hl => match us, hl with | [_], _ => rfl) s
    exact ⟨K, fd, M.spLaw K, KX, fun s v => b s [v] rfl, fun H a ns hl hO hS => ⟨a, ns, rfl, hS, hl, fun _ => rfl⟩, fun base _ _ => M.ok_law T hF⟩
