import PyProof.Rows.All
import Wide.All
import OpenK.AllK
import Wide.FinOn
import KE.KStateDown
import HandS.ForMost
import HandS.ForExc
import HandS.More
import HandS.Conv
import HandS.IsInst
import HandS.DictComp
import HandS.Zip
import HandS.Walk
import HandS.SetKeys
import HandS.Codes
import HandS.CallLocal
import HandS.WrittenGet
import HandS.TryMany
import HandS.ExcField
import HandS.Flow
import HandS.Style
import HandS.Evl
import HandS.Wide
import HandS.WideBits
import HandS.Defaults
import HandS.Head0
import HandS.Head1
import HandS.Head2
import HandS.HeadEnd
import HandS.HeadHook1
import HandS.HeadHook2
import HandS.HeadHook3
import HandS.HeadHook4
import HandS.ExcOwn
import HandS.TryOnly
import HandS.TryElse
import HandS.TupAny
import HandS.ExcInit
import HandS.FStr
import PySem.Challenge.RW_pastless_k18_whole_spoilt_row_texts
set_option Elab.async false
set_option linter.all false
set_option maxRecDepth 100000
set_option maxHeartbeats 2000000
namespace M
open PySem PySem.Spec PyProof.Rows L2
def top (i : Nat) : Stmt := PySem.Challenge.pw_pastless_k18_whole_spoilt_row_texts.main.body.getD i (.Pass ⟨0, 0, 0, 0⟩)
abbrev s_NoRow_init : Stmt := inClass (top 3) 0
abbrev s_NoWeaving_init : Stmt := inClass (top 4) 0
abbrev s_NoText_init : Stmt := inClass (top 5) 0
abbrev s_is_integer : Stmt := top 9
abbrev s_is_within : Stmt := top 10
abbrev s_is_tuple : Stmt := top 11
abbrev s_is_name : Stmt := top 15
abbrev s_number_in : Stmt := top 18
abbrev s_is_call : Stmt := top 20
abbrev s_call_in : Stmt := top 21
abbrev s_row_text : Stmt := top 22
abbrev s_read_row : Stmt := top 23
abbrev s_read_items : Stmt := top 24
abbrev s_is_item : Stmt := top 25
abbrev s_item_in : Stmt := top 26
abbrev s_weaving_text : Stmt := top 27
abbrev s_read_weaving : Stmt := top 28
abbrev s_is_any_state : Stmt := top 29
abbrev s_state_text : Stmt := top 30
abbrev s_read_state : Stmt := top 31
abbrev s_l_pool : Stmt := top 33
abbrev s_l_draw : Stmt := top 34
abbrev s_l_name : Stmt := top 35
abbrev s_l_call : Stmt := top 36
abbrev s_l_item : Stmt := top 37
abbrev s_l_odd : Stmt := top 38
abbrev s_l_good_int : Stmt := top 39
abbrev s_l_good_name : Stmt := top 40
abbrev s_l_good_call : Stmt := top 41
abbrev s_l_good_item : Stmt := top 42
abbrev s_l_call_line : Stmt := top 43
abbrev s_l_item_line : Stmt := top 44
abbrev s_l_written : Stmt := top 45
abbrev s_l_small : Stmt := top 46
abbrev s_l_line_thing : Stmt := top 47
abbrev s_l_read : Stmt := top 48
abbrev s_l_same : Stmt := top 49
abbrev s_l_writes : Stmt := top 50
abbrev s_l_reads : Stmt := top 51
abbrev s_l_asked : Stmt := top 52
abbrev s_l_thing_holds : Stmt := top 53
abbrev s_l_text_holds : Stmt := top 54
abbrev s_l_spoilt : Stmt := top 55
abbrev s_l_sign : Stmt := top 56
abbrev s_l_odd_line : Stmt := top 57
abbrev s_l_changed : Stmt := top 58
abbrev s_law : Stmt := top 59
abbrev dd (x : Str) (st : Stmt) : He.DefD := ⟨(x, none), x, x, defArgs st, defBody st, defScope st, [], []⟩
abbrev dm (C m q : Str) (st : Stmt) : He.DefD := ⟨(C, some m), m, q, defArgs st, defBody st, defScope st, [], []⟩
def fn : List He.DefD := [dm "NoRow" "__init__" "NoRow.__init__" s_NoRow_init, dm "NoWeaving" "__init__" "NoWeaving.__init__" s_NoWeaving_init, dm "NoText" "__init__" "NoText.__init__" s_NoText_init, dd "is_integer" s_is_integer, dd "is_within" s_is_within, dd "is_tuple" s_is_tuple, dd "is_name" s_is_name, dd "number_in" s_number_in, dd "is_call" s_is_call, dd "call_in" s_call_in, dd "row_text" s_row_text, dd "read_row" s_read_row, dd "read_items" s_read_items, dd "is_item" s_is_item, dd "item_in" s_item_in, dd "weaving_text" s_weaving_text, dd "read_weaving" s_read_weaving, dd "is_any_state" s_is_any_state, dd "state_text" s_state_text, dd "read_state" s_read_state, dd "_law_pool" s_l_pool, dd "_law_draw" s_l_draw, dd "_law_name" s_l_name, dd "_law_call" s_l_call, dd "_law_item" s_l_item, dd "_law_odd" s_l_odd, dd "_law_good_int" s_l_good_int, dd "_law_good_name" s_l_good_name, dd "_law_good_call" s_l_good_call, dd "_law_good_item" s_l_good_item, dd "_law_call_line" s_l_call_line, dd "_law_item_line" s_l_item_line, dd "_law_written" s_l_written, dd "_law_small" s_l_small, dd "_law_line_thing" s_l_line_thing, dd "_law_read" s_l_read, dd "_law_same" s_l_same, dd "_law_writes" s_l_writes, dd "_law_reads" s_l_reads, dd "_law_asked" s_l_asked, dd "_law_thing_holds" s_l_thing_holds, dd "_law_text_holds" s_l_text_holds, dd "_law_spoilt" s_l_spoilt, dd "_law_sign" s_l_sign, dd "_law_odd_line" s_l_odd_line, dd "_law_changed" s_l_changed, dd "law" s_law]
def fa0 : List He.Fa := [.glo "is_integer", .glo "is_within", .glo "is_tuple", .glo "is_name", .glo "number_in", .glo "is_call", .glo "call_in", .glo "row_text", .glo "read_row", .glo "read_items", .glo "is_item", .glo "item_in", .glo "weaving_text", .glo "read_weaving", .glo "is_any_state", .glo "state_text", .glo "read_state", .glo "_law_pool", .glo "_law_draw", .glo "_law_name", .glo "_law_call", .glo "_law_item", .glo "_law_odd", .glo "_law_good_int", .glo "_law_good_name", .glo "_law_good_call", .glo "_law_good_item", .glo "_law_call_line", .glo "_law_item_line", .glo "_law_written"]
def fa1 : List He.Fa := [.glo "_law_small", .glo "_law_line_thing", .glo "_law_read", .glo "_law_same", .glo "_law_writes", .glo "_law_reads", .glo "_law_asked", .glo "_law_thing_holds", .glo "_law_text_holds", .glo "_law_spoilt", .glo "_law_sign", .glo "_law_odd_line", .glo "_law_changed", .glo "law", .glo "PastError", .glo "NoState", .glo "NoRow", .glo "NoWeaving", .glo "NoText", .exc "PastError", .exc "NoState", .exm "NoRow" "NoRow" true, .exm "NoText" "NoRow" false, .exm "NoWeaving" "NoRow" false, .exm "NoState" "NoRow" false, .exm "NoRow" "NoWeaving" false, .exm "NoText" "NoWeaving" false, .exm "NoWeaving" "NoWeaving" true, .exm "NoState" "NoWeaving" false, .exm "NoRow" "NoState" false]
def fa2 : List He.Fa := [.exm "NoText" "NoState" false, .exm "NoWeaving" "NoState" false, .exm "NoState" "NoState" true, .exm "NoRow" "NoText" false, .exm "NoText" "NoText" true, .exm "NoWeaving" "NoText" false, .exm "NoState" "NoText" false, .exm "NoRow" "PastError" true, .exm "NoText" "PastError" true, .exm "NoWeaving" "PastError" true, .exm "NoState" "PastError" true, .free "len", .free "isinstance", .free "int", .free "abs", .free "tuple", .free "list", .free "str", .free "bool", .free "range", .free "zip", .free "enumerate", .free "set", .free "min", .free "max", .free "reversed", .free "sorted", .free "sum", .free "dict", .free "all"]
def fa3 : List He.Fa := [.int "MOST_CELLS" (6), .int "GREATEST_SIZE" (9), .int "LONGEST_NAME" (8), .int "MOST_CHOICES" (9), .int "MOST_DIGITS" (3)]
def fa : List He.Fa := fa0 ++ fa1 ++ fa2 ++ fa3
/-- the values of a written dict are tuples of texts -/
def formsB (K : PySem.W.Frag) (a : Addr) (kvs : List (Str × List Str)) : Bool := kvs.all fun q => match PySem.W.nsIn K a q.1 with
  | some (some (.ref t)) => (match K.lookup t with
    | some ⟨.type c, none, .seq its _, _⟩ => decide (c = "tuple") && (decide (its.size ≤ sizeLine) && He.relAll (q.2.map V.str) its.toList)
    | _ => false)
  | _ => false
/-- the class x is an error with its own __init__, which keeps the field f -/
def oexS (K : PySem.W.Frag) (C : Addr) : Bool := match K.lookup C with
  | some ⟨.type t, _, .cls cd, sl⟩ => (match cd.mro, sl.toList with
    | .ref D :: bm, [_, _, _, _, some (.builtin n), _] => decide (t = "type") && (decide (D = C) && (decide (n = "ValueError.__new__") && (cd.hasDict && (!cd.hasDel && PySem.HandSPX.refsVE bm))))
    | _, _ => false)
  | _ => false
def oexB (K : PySem.W.Frag) (x f : Str) : Bool := oexS K (He.ga K x) && (He.eqO (PySem.W.findIn K (.ref (He.ga K x)) "__setattr__") (some (some (.builtin "object.__setattr__"))) && (decide (PySem.W.subIn K (.ref (He.ga K x)) (.type "BaseException") = some true) &&
  (decide (PySem.W.typeIn K (.ref (He.ga K x)) = some (.type "type")) && (PySem.W.keepIn K (.ref (He.ga K x)) && (xfB K (He.ga K x) && (He.eqO (PySem.W.findIn K (.ref (He.ga K x)) f) (some none) &&
  (He.eqO (PySem.W.findIn K (.ref (He.ga K x)) "__init__") (some (some (.ref (He.ma K (He.ga K x) "__init__")))) && decide (PySem.W.typeIn K (.ref (He.ma K (He.ga K x) "__init__")) = some (.type "function")))))))))
/-- the class x reads its __init__ off ValueError -/
def pinB (K : PySem.W.Frag) (x : Str) : Bool := PySem.W.readsIn K (He.ga K x) (.type "type") && (decide (PySem.W.specialIn K (.ref (He.ga K x)) "__getattribute__" = some (some (.builtin "type.__getattribute__"))) &&
  (match PySem.W.findCls K (.ref (He.ga K x)) (.type "type") "__init__" with
    | some (.val (.builtin i)) => decide (i = "ValueError.__init__")
    | _ => false))
/-- the places that the names reach, and that of the interpreter's own marks -/
def aS (g : Addr → Option Obj) (n : Nat) : List Addr := He.asD g n ++ [cStatics]
def obS (n : Nat) (fa : List He.Fa) (fn : List He.DefD) (ts : List He.Tab) (ex : PySem.W.Frag → Bool) (g : Addr → Option Obj) : He.AlX := (He.obsT fa fn ts (He.frT g (aS g n)), ex (He.frT g (aS g n)))
theorem obS_says {n : Nat} {fa : List He.Fa} {fn : List He.DefD} {ts : List He.Tab} {ex : PySem.W.Frag → Bool} {w : World} {h : Heap} (e : obS n fa fn ts ex h.get? = He.valX fn ts w) : He.SaysX fa fn ts [] ex w h (He.frT h.get? (aS h.get? n)) := by
  have e1 := congrArg Prod.fst e
  have e2 := congrArg Prod.snd e
  constructor
  · exact e1
  · exact e2
  all_goals
    intro p hp
    cases hp
def hookS (n : Nat) (fa : List He.Fa) (fn : List He.DefD) (ts : List He.Tab) (ex : PySem.W.Frag → Bool) : PySem.W.Hook :=
  { α := He.AlX, obs := fun s => obS n fa fn ts ex s.heap.get?, val := fun w => He.valX fn ts w, says := fun w h => ∃ K : PySem.W.Frag, K.In h ∧ He.SaysX fa fn ts [] ex w h K, of := fun _ _ e => ⟨_, He.frT_in, obS_says e⟩,
    keeps := by
      intro w h h2 z k
      obtain ⟨K, z1, z2⟩ := z
      exact ⟨K, PySem.W.Frag.In.keeps z1 k, ⟨z2.t, z2.more, z2.hd, z2.out, fun p hp => by cases hp⟩⟩ }
theorem obS_eq {n : Nat} {fa : List He.Fa} {fn : List He.DefD} {ts : List He.Tab} {ex : PySem.W.Frag → Bool} {g : Addr → Option Obj} {s : Shared} (h : ∀ a, g a = s.heap.get? a) : obS n fa fn ts ex g = (hookS n fa fn ts ex).obs s := by
  cases (funext h : g = s.heap.get?)
  rfl
def ts : List He.Tab := []
def ex (K : PySem.W.Frag) : Bool := oexB K "NoRow" "index" && (oexB K "NoWeaving" "index" && (oexB K "NoText" "line" && (pinB K "PastError")))
end M

section
set_option maxRecDepth 100000
namespace M
open PySem PySem.Spec PyProof.Rows L2
set_option maxHeartbeats 0
def nm0 : List PySem.Str := ["PastError", "NoState", "NoRow", "NoWeaving", "NoText", "MOST_CELLS", "GREATEST_SIZE", "is_integer", "is_within", "is_tuple", "LONGEST_NAME", "MOST_CHOICES", "is_name", "MOST_DIGITS", "number_in", "is_call", "call_in", "row_text", "read_row", "read_items", "is_item", "item_in", "weaving_text", "read_weaving", "is_any_state", "state_text", "read_state", "_law_pool", "_law_draw", "_law_name"]
def nm1 : List PySem.Str := ["_law_call", "_law_item", "_law_odd", "_law_good_int", "_law_good_name", "_law_good_call", "_law_good_item", "_law_call_line", "_law_item_line", "_law_written", "_law_small", "_law_line_thing", "_law_read", "_law_same", "_law_writes", "_law_reads", "_law_asked", "_law_thing_holds", "_law_text_holds", "_law_spoilt", "_law_sign", "_law_odd_line", "_law_changed"]
def names : List PySem.Str := nm0 ++ nm1
abbrev R : PySem.W.OpenRow := PySem.W.OpenLaw.row PySem.Challenge.rw_pastless_k18_whole_spoilt_row_texts
abbrev hk : PySem.W.Hook := hookS 4 fa fn ts ex
def ob (s : PySem.W.SharedT) : He.AlX := obS 4 fa fn ts ex (HandSHeadRun.getT s)
theorem ob_eq (s : PySem.W.SharedT) : ob s = hk.obs s.abs := obS_eq (HandSHeadRun.getT_eq s)
theorem run_false (w : World) : HandSHeadRun.RunEq R (PySem.W.view R.prog [59]) hk ob 8000 names (w.withFollow "special-get-raises" false) := by
  intro os
  kernel_rfl
theorem run_true (w : World) : HandSHeadRun.RunEq R (PySem.W.view R.prog [59]) hk ob 8000 names (w.withFollow "special-get-raises" true) := by
  intro os
  kernel_rfl
theorem run (w : World) : HandSHeadRun.RunEq R (PySem.W.view R.prog [59]) hk ob 8000 names w :=
  PySem.W.byRow2 "special-get-raises" (P := fun w => HandSHeadRun.RunEq R (PySem.W.view R.prog [59]) hk ob 8000 names w) run_false run_true w
end M
end

namespace M
open PySem PySem.Spec PyProof.Rows L2
/-- what the top has written -/
structure Txt (w : World) (K : PySem.W.Frag) (mg : Str → Option Value) : Prop where
  says : ∃ h, He.SaysX fa fn ts [] ex w h K
  X : ∃ h : Heap, K.In h ∧ h.Ns mainGlobals mg
section
variable {P : Program} {w : World} {K : PySem.W.Frag} {mg : Str → Option Value} {base : Heap}
theorem Txt.fact (T : Txt w K mg) (i : Nat) {f : He.Fa} (h : fa[i]? = some f := by rfl) : f.ok K = true := by
  obtain ⟨_, s⟩ := T.says
  exact s.t.d.fact i h
theorem Txt.glo (T : Txt w K mg) (i : Nat) {x : Str} (h : fa[i]? = some (.glo x) := by rfl) : mg x = some (.ref (He.ga K x)) := by
  obtain ⟨_, X, G⟩ := T.X
  exact He.glo_ok X G (T.fact i h)
theorem Txt.fr (T : Txt w K mg) (i : Nat) {x : Str} (h : fa[i]? = some (.free x) := by rfl) : mg x = none := by
  obtain ⟨_, X, G⟩ := T.X
  exact He.free_ok X G (T.fact i h)
theorem Txt.int (T : Txt w K mg) (i : Nat) {x : Str} {n : Int} (h : fa[i]? = some (.int x n) := by rfl) : ∃ u, mg x = some u ∧ RelV (.int n) u := by
  obtain ⟨_, X, G⟩ := T.X
  obtain ⟨t, e⟩ := He.int_ok X G (T.fact i h)
  exact ⟨_, e, ⟨t, rfl⟩⟩
theorem Txt.fd (T : Txt w K mg) (i : Nat) {d : He.DefD} (h : fn[i]? = some d := by rfl) : ∃ f, FunD K d.name d.qual d.params d.body d.scope (d.dvs K) (d.kws K) (He.fAd K d.at_) f := by
  obtain ⟨_, s⟩ := T.says
  exact s.t.d.def_ i h
theorem Txt.ex (T : Txt w K mg) : ex K = true := by
  obtain ⟨_, s⟩ := T.says
  exact s.more
theorem Txt.tab (T : Txt w K mg) (i : Nat) {t : He.Tab} (h : ts[i]? = some t := by rfl) : ∃ es n, KDict K w (t.1 K) es n := by
  obtain ⟨_, s⟩ := T.says
  exact s.t.tab i h
end
/-! places of the facts: 0 glo "is_integer"; 1 glo "is_within"; 2 glo "is_tuple"; 3 glo "is_name"; 4 glo "number_in"; 5 glo "is_call"; 6 glo "call_in"; 7 glo "row_text"; 8 glo "read_row"; 9 glo "read_items"; 10 glo "is_item"; 11 glo "item_in"; 12 glo "weaving_text"; 13 glo "read_weaving"; 14 glo "is_any_state"; 15 glo "state_text"; 16 glo "read_state"; 17 glo "_law_pool"; 18 glo "_law_draw"; 19 glo "_law_name"; 20 glo "_law_call"; 21 glo "_law_item"; 22 glo "_law_odd"; 23 glo "_law_good_int"; 24 glo "_law_good_name"; 25 glo "_law_good_call"; 26 glo "_law_good_item"; 27 glo "_law_call_line"; 28 glo "_law_item_line"; 29 glo "_law_written"; 30 glo "_law_small"; 31 glo "_law_line_thing"; 32 glo "_law_read"; 33 glo "_law_same"; 34 glo "_law_writes"; 35 glo "_law_reads"; 36 glo "_law_asked"; 37 glo "_law_thing_holds"; 38 glo "_law_text_holds"; 39 glo "_law_spoilt"; 40 glo "_law_sign"; 41 glo "_law_odd_line"; 42 glo "_law_changed"; 43 glo "law"; 44 glo "PastError"; 45 glo "NoState"; 46 glo "NoRow"; 47 glo "NoWeaving"; 48 glo "NoText"; 49 exc "PastError"; 50 exc "NoState"; 51 exm "NoRow" "NoRow" true; 52 exm "NoText" "NoRow" false; 53 exm "NoWeaving" "NoRow" false; 54 exm "NoState" "NoRow" false; 55 exm "NoRow" "NoWeaving" false; 56 exm "NoText" "NoWeaving" false; 57 exm "NoWeaving" "NoWeaving" true; 58 exm "NoState" "NoWeaving" false; 59 exm "NoRow" "NoState" false; 60 exm "NoText" "NoState" false; 61 exm "NoWeaving" "NoState" false; 62 exm "NoState" "NoState" true; 63 exm "NoRow" "NoText" false; 64 exm "NoText" "NoText" true; 65 exm "NoWeaving" "NoText" false; 66 exm "NoState" "NoText" false; 67 exm "NoRow" "PastError" true; 68 exm "NoText" "PastError" true; 69 exm "NoWeaving" "PastError" true; 70 exm "NoState" "PastError" true; 71 free "len"; 72 free "isinstance"; 73 free "int"; 74 free "abs"; 75 free "tuple"; 76 free "list"; 77 free "str"; 78 free "bool"; 79 free "range"; 80 free "zip"; 81 free "enumerate"; 82 free "set"; 83 free "min"; 84 free "max"; 85 free "reversed"; 86 free "sorted"; 87 free "sum"; 88 free "dict"; 89 free "all"; 90 int "MOST_CELLS" (6); 91 int "GREATEST_SIZE" (9); 92 int "LONGEST_NAME" (8); 93 int "MOST_CHOICES" (9); 94 int "MOST_DIGITS" (3) -/
section
variable {P : Program} {w : World} {K : PySem.W.Frag} {mg : Str → Option Value} {base : Heap}
theorem Txt.g_is_integer (T : Txt w K mg) : mg "is_integer" = some (.ref (He.ga K "is_integer")) := T.glo 0
theorem Txt.g_is_within (T : Txt w K mg) : mg "is_within" = some (.ref (He.ga K "is_within")) := T.glo 1
theorem Txt.g_is_tuple (T : Txt w K mg) : mg "is_tuple" = some (.ref (He.ga K "is_tuple")) := T.glo 2
theorem Txt.g_is_name (T : Txt w K mg) : mg "is_name" = some (.ref (He.ga K "is_name")) := T.glo 3
theorem Txt.g_number_in (T : Txt w K mg) : mg "number_in" = some (.ref (He.ga K "number_in")) := T.glo 4
theorem Txt.g_is_call (T : Txt w K mg) : mg "is_call" = some (.ref (He.ga K "is_call")) := T.glo 5
theorem Txt.g_call_in (T : Txt w K mg) : mg "call_in" = some (.ref (He.ga K "call_in")) := T.glo 6
theorem Txt.g_row_text (T : Txt w K mg) : mg "row_text" = some (.ref (He.ga K "row_text")) := T.glo 7
theorem Txt.g_read_row (T : Txt w K mg) : mg "read_row" = some (.ref (He.ga K "read_row")) := T.glo 8
theorem Txt.g_read_items (T : Txt w K mg) : mg "read_items" = some (.ref (He.ga K "read_items")) := T.glo 9
theorem Txt.g_is_item (T : Txt w K mg) : mg "is_item" = some (.ref (He.ga K "is_item")) := T.glo 10
theorem Txt.g_item_in (T : Txt w K mg) : mg "item_in" = some (.ref (He.ga K "item_in")) := T.glo 11
theorem Txt.g_weaving_text (T : Txt w K mg) : mg "weaving_text" = some (.ref (He.ga K "weaving_text")) := T.glo 12
theorem Txt.g_read_weaving (T : Txt w K mg) : mg "read_weaving" = some (.ref (He.ga K "read_weaving")) := T.glo 13
theorem Txt.g_is_any_state (T : Txt w K mg) : mg "is_any_state" = some (.ref (He.ga K "is_any_state")) := T.glo 14
theorem Txt.g_state_text (T : Txt w K mg) : mg "state_text" = some (.ref (He.ga K "state_text")) := T.glo 15
theorem Txt.g_read_state (T : Txt w K mg) : mg "read_state" = some (.ref (He.ga K "read_state")) := T.glo 16
theorem Txt.g_law_pool (T : Txt w K mg) : mg "_law_pool" = some (.ref (He.ga K "_law_pool")) := T.glo 17
theorem Txt.g_law_draw (T : Txt w K mg) : mg "_law_draw" = some (.ref (He.ga K "_law_draw")) := T.glo 18
theorem Txt.g_law_name (T : Txt w K mg) : mg "_law_name" = some (.ref (He.ga K "_law_name")) := T.glo 19
theorem Txt.g_law_call (T : Txt w K mg) : mg "_law_call" = some (.ref (He.ga K "_law_call")) := T.glo 20
theorem Txt.g_law_item (T : Txt w K mg) : mg "_law_item" = some (.ref (He.ga K "_law_item")) := T.glo 21
theorem Txt.g_law_odd (T : Txt w K mg) : mg "_law_odd" = some (.ref (He.ga K "_law_odd")) := T.glo 22
theorem Txt.g_law_good_int (T : Txt w K mg) : mg "_law_good_int" = some (.ref (He.ga K "_law_good_int")) := T.glo 23
theorem Txt.g_law_good_name (T : Txt w K mg) : mg "_law_good_name" = some (.ref (He.ga K "_law_good_name")) := T.glo 24
theorem Txt.g_law_good_call (T : Txt w K mg) : mg "_law_good_call" = some (.ref (He.ga K "_law_good_call")) := T.glo 25
theorem Txt.g_law_good_item (T : Txt w K mg) : mg "_law_good_item" = some (.ref (He.ga K "_law_good_item")) := T.glo 26
theorem Txt.g_law_call_line (T : Txt w K mg) : mg "_law_call_line" = some (.ref (He.ga K "_law_call_line")) := T.glo 27
theorem Txt.g_law_item_line (T : Txt w K mg) : mg "_law_item_line" = some (.ref (He.ga K "_law_item_line")) := T.glo 28
theorem Txt.g_law_written (T : Txt w K mg) : mg "_law_written" = some (.ref (He.ga K "_law_written")) := T.glo 29
theorem Txt.g_law_small (T : Txt w K mg) : mg "_law_small" = some (.ref (He.ga K "_law_small")) := T.glo 30
theorem Txt.g_law_line_thing (T : Txt w K mg) : mg "_law_line_thing" = some (.ref (He.ga K "_law_line_thing")) := T.glo 31
theorem Txt.g_law_read (T : Txt w K mg) : mg "_law_read" = some (.ref (He.ga K "_law_read")) := T.glo 32
theorem Txt.g_law_same (T : Txt w K mg) : mg "_law_same" = some (.ref (He.ga K "_law_same")) := T.glo 33
theorem Txt.g_law_writes (T : Txt w K mg) : mg "_law_writes" = some (.ref (He.ga K "_law_writes")) := T.glo 34
theorem Txt.g_law_reads (T : Txt w K mg) : mg "_law_reads" = some (.ref (He.ga K "_law_reads")) := T.glo 35
theorem Txt.g_law_asked (T : Txt w K mg) : mg "_law_asked" = some (.ref (He.ga K "_law_asked")) := T.glo 36
theorem Txt.g_law_thing_holds (T : Txt w K mg) : mg "_law_thing_holds" = some (.ref (He.ga K "_law_thing_holds")) := T.glo 37
theorem Txt.g_law_text_holds (T : Txt w K mg) : mg "_law_text_holds" = some (.ref (He.ga K "_law_text_holds")) := T.glo 38
theorem Txt.g_law_spoilt (T : Txt w K mg) : mg "_law_spoilt" = some (.ref (He.ga K "_law_spoilt")) := T.glo 39
theorem Txt.g_law_sign (T : Txt w K mg) : mg "_law_sign" = some (.ref (He.ga K "_law_sign")) := T.glo 40
theorem Txt.g_law_odd_line (T : Txt w K mg) : mg "_law_odd_line" = some (.ref (He.ga K "_law_odd_line")) := T.glo 41
theorem Txt.g_law_changed (T : Txt w K mg) : mg "_law_changed" = some (.ref (He.ga K "_law_changed")) := T.glo 42
theorem Txt.g_law (T : Txt w K mg) : mg "law" = some (.ref (He.ga K "law")) := T.glo 43
theorem Txt.g_PastError (T : Txt w K mg) : mg "PastError" = some (.ref (He.ga K "PastError")) := T.glo 44
theorem Txt.g_NoState (T : Txt w K mg) : mg "NoState" = some (.ref (He.ga K "NoState")) := T.glo 45
theorem Txt.g_NoRow (T : Txt w K mg) : mg "NoRow" = some (.ref (He.ga K "NoRow")) := T.glo 46
theorem Txt.g_NoWeaving (T : Txt w K mg) : mg "NoWeaving" = some (.ref (He.ga K "NoWeaving")) := T.glo 47
theorem Txt.g_NoText (T : Txt w K mg) : mg "NoText" = some (.ref (He.ga K "NoText")) := T.glo 48
theorem Txt.x_PastError (T : Txt w K mg) : PySem.W.excIn K (He.ga K "PastError") He.veBase "ValueError.__new__" = true ∧ PySem.W.keepIn K (.ref (He.ga K "PastError")) = true ∧ PySem.W.subIn K (.ref (He.ga K "PastError")) (.type "BaseException") = some true ∧ PySem.W.typeIn K (.ref (He.ga K "PastError")) = some (.type "type") := He.exc_ok (T.fact 49 (f := .exc "PastError"))
theorem Txt.x_NoState (T : Txt w K mg) : PySem.W.excIn K (He.ga K "NoState") He.veBase "ValueError.__new__" = true ∧ PySem.W.keepIn K (.ref (He.ga K "NoState")) = true ∧ PySem.W.subIn K (.ref (He.ga K "NoState")) (.type "BaseException") = some true ∧ PySem.W.typeIn K (.ref (He.ga K "NoState")) = some (.type "type") := He.exc_ok (T.fact 50 (f := .exc "NoState"))
theorem Txt.xm_NoRow (T : Txt w K mg) : PySem.W.exmOne K (.ref (He.ga K "NoRow")) (.ref (He.ga K "NoRow")) = some true := of_decide_eq_true (T.fact 51 (f := .exm "NoRow" "NoRow" true))
theorem Txt.xm_NoText_NoRow (T : Txt w K mg) : PySem.W.exmOne K (.ref (He.ga K "NoText")) (.ref (He.ga K "NoRow")) = some false := of_decide_eq_true (T.fact 52 (f := .exm "NoText" "NoRow" false))
theorem Txt.xm_NoWeaving_NoRow (T : Txt w K mg) : PySem.W.exmOne K (.ref (He.ga K "NoWeaving")) (.ref (He.ga K "NoRow")) = some false := of_decide_eq_true (T.fact 53 (f := .exm "NoWeaving" "NoRow" false))
theorem Txt.xm_NoState_NoRow (T : Txt w K mg) : PySem.W.exmOne K (.ref (He.ga K "NoState")) (.ref (He.ga K "NoRow")) = some false := of_decide_eq_true (T.fact 54 (f := .exm "NoState" "NoRow" false))
theorem Txt.xm_NoRow_NoWeaving (T : Txt w K mg) : PySem.W.exmOne K (.ref (He.ga K "NoRow")) (.ref (He.ga K "NoWeaving")) = some false := of_decide_eq_true (T.fact 55 (f := .exm "NoRow" "NoWeaving" false))
theorem Txt.xm_NoText_NoWeaving (T : Txt w K mg) : PySem.W.exmOne K (.ref (He.ga K "NoText")) (.ref (He.ga K "NoWeaving")) = some false := of_decide_eq_true (T.fact 56 (f := .exm "NoText" "NoWeaving" false))
theorem Txt.xm_NoWeaving (T : Txt w K mg) : PySem.W.exmOne K (.ref (He.ga K "NoWeaving")) (.ref (He.ga K "NoWeaving")) = some true := of_decide_eq_true (T.fact 57 (f := .exm "NoWeaving" "NoWeaving" true))
theorem Txt.xm_NoState_NoWeaving (T : Txt w K mg) : PySem.W.exmOne K (.ref (He.ga K "NoState")) (.ref (He.ga K "NoWeaving")) = some false := of_decide_eq_true (T.fact 58 (f := .exm "NoState" "NoWeaving" false))
theorem Txt.xm_NoRow_NoState (T : Txt w K mg) : PySem.W.exmOne K (.ref (He.ga K "NoRow")) (.ref (He.ga K "NoState")) = some false := of_decide_eq_true (T.fact 59 (f := .exm "NoRow" "NoState" false))
theorem Txt.xm_NoText_NoState (T : Txt w K mg) : PySem.W.exmOne K (.ref (He.ga K "NoText")) (.ref (He.ga K "NoState")) = some false := of_decide_eq_true (T.fact 60 (f := .exm "NoText" "NoState" false))
theorem Txt.xm_NoWeaving_NoState (T : Txt w K mg) : PySem.W.exmOne K (.ref (He.ga K "NoWeaving")) (.ref (He.ga K "NoState")) = some false := of_decide_eq_true (T.fact 61 (f := .exm "NoWeaving" "NoState" false))
theorem Txt.xm_NoState (T : Txt w K mg) : PySem.W.exmOne K (.ref (He.ga K "NoState")) (.ref (He.ga K "NoState")) = some true := of_decide_eq_true (T.fact 62 (f := .exm "NoState" "NoState" true))
theorem Txt.xm_NoRow_NoText (T : Txt w K mg) : PySem.W.exmOne K (.ref (He.ga K "NoRow")) (.ref (He.ga K "NoText")) = some false := of_decide_eq_true (T.fact 63 (f := .exm "NoRow" "NoText" false))
theorem Txt.xm_NoText (T : Txt w K mg) : PySem.W.exmOne K (.ref (He.ga K "NoText")) (.ref (He.ga K "NoText")) = some true := of_decide_eq_true (T.fact 64 (f := .exm "NoText" "NoText" true))
theorem Txt.xm_NoWeaving_NoText (T : Txt w K mg) : PySem.W.exmOne K (.ref (He.ga K "NoWeaving")) (.ref (He.ga K "NoText")) = some false := of_decide_eq_true (T.fact 65 (f := .exm "NoWeaving" "NoText" false))
theorem Txt.xm_NoState_NoText (T : Txt w K mg) : PySem.W.exmOne K (.ref (He.ga K "NoState")) (.ref (He.ga K "NoText")) = some false := of_decide_eq_true (T.fact 66 (f := .exm "NoState" "NoText" false))
theorem Txt.xm_NoRow_PastError (T : Txt w K mg) : PySem.W.exmOne K (.ref (He.ga K "NoRow")) (.ref (He.ga K "PastError")) = some true := of_decide_eq_true (T.fact 67 (f := .exm "NoRow" "PastError" true))
theorem Txt.xm_NoText_PastError (T : Txt w K mg) : PySem.W.exmOne K (.ref (He.ga K "NoText")) (.ref (He.ga K "PastError")) = some true := of_decide_eq_true (T.fact 68 (f := .exm "NoText" "PastError" true))
theorem Txt.xm_NoWeaving_PastError (T : Txt w K mg) : PySem.W.exmOne K (.ref (He.ga K "NoWeaving")) (.ref (He.ga K "PastError")) = some true := of_decide_eq_true (T.fact 69 (f := .exm "NoWeaving" "PastError" true))
theorem Txt.xm_NoState_PastError (T : Txt w K mg) : PySem.W.exmOne K (.ref (He.ga K "NoState")) (.ref (He.ga K "PastError")) = some true := of_decide_eq_true (T.fact 70 (f := .exm "NoState" "PastError" true))
theorem Txt.b_len (T : Txt w K mg) : mg "len" = none := T.fr 71
theorem Txt.b_isinstance (T : Txt w K mg) : mg "isinstance" = none := T.fr 72
theorem Txt.b_int (T : Txt w K mg) : mg "int" = none := T.fr 73
theorem Txt.b_abs (T : Txt w K mg) : mg "abs" = none := T.fr 74
theorem Txt.b_tuple (T : Txt w K mg) : mg "tuple" = none := T.fr 75
theorem Txt.b_list (T : Txt w K mg) : mg "list" = none := T.fr 76
theorem Txt.b_str (T : Txt w K mg) : mg "str" = none := T.fr 77
theorem Txt.b_bool (T : Txt w K mg) : mg "bool" = none := T.fr 78
theorem Txt.b_range (T : Txt w K mg) : mg "range" = none := T.fr 79
theorem Txt.b_zip (T : Txt w K mg) : mg "zip" = none := T.fr 80
theorem Txt.b_enumerate (T : Txt w K mg) : mg "enumerate" = none := T.fr 81
theorem Txt.b_set (T : Txt w K mg) : mg "set" = none := T.fr 82
theorem Txt.b_min (T : Txt w K mg) : mg "min" = none := T.fr 83
theorem Txt.b_max (T : Txt w K mg) : mg "max" = none := T.fr 84
theorem Txt.b_reversed (T : Txt w K mg) : mg "reversed" = none := T.fr 85
theorem Txt.b_sorted (T : Txt w K mg) : mg "sorted" = none := T.fr 86
theorem Txt.b_sum (T : Txt w K mg) : mg "sum" = none := T.fr 87
theorem Txt.b_dict (T : Txt w K mg) : mg "dict" = none := T.fr 88
theorem Txt.b_all (T : Txt w K mg) : mg "all" = none := T.fr 89
theorem Txt.i_MOST_CELLS (T : Txt w K mg) : ∃ u, mg "MOST_CELLS" = some u ∧ RelV (.int 6) u := T.int 90
theorem Txt.i_GREATEST_SIZE (T : Txt w K mg) : ∃ u, mg "GREATEST_SIZE" = some u ∧ RelV (.int 9) u := T.int 91
theorem Txt.i_LONGEST_NAME (T : Txt w K mg) : ∃ u, mg "LONGEST_NAME" = some u ∧ RelV (.int 8) u := T.int 92
theorem Txt.i_MOST_CHOICES (T : Txt w K mg) : ∃ u, mg "MOST_CHOICES" = some u ∧ RelV (.int 9) u := T.int 93
theorem Txt.i_MOST_DIGITS (T : Txt w K mg) : ∃ u, mg "MOST_DIGITS" = some u ∧ RelV (.int 3) u := T.int 94
theorem Txt.f_NoRow_init (T : Txt w K mg) : ∃ f, FunD K "__init__" "NoRow.__init__" (defArgs s_NoRow_init) (defBody s_NoRow_init) (defScope s_NoRow_init) [] [] (He.fAd K ("NoRow", some "__init__")) f := T.fd 0
theorem Txt.f_NoWeaving_init (T : Txt w K mg) : ∃ f, FunD K "__init__" "NoWeaving.__init__" (defArgs s_NoWeaving_init) (defBody s_NoWeaving_init) (defScope s_NoWeaving_init) [] [] (He.fAd K ("NoWeaving", some "__init__")) f := T.fd 1
theorem Txt.f_NoText_init (T : Txt w K mg) : ∃ f, FunD K "__init__" "NoText.__init__" (defArgs s_NoText_init) (defBody s_NoText_init) (defScope s_NoText_init) [] [] (He.fAd K ("NoText", some "__init__")) f := T.fd 2
theorem Txt.f_is_integer (T : Txt w K mg) : ∃ f, FunD K "is_integer" "is_integer" (defArgs s_is_integer) (defBody s_is_integer) (defScope s_is_integer) [] [] (He.fAd K ("is_integer", none)) f := T.fd 3
theorem Txt.f_is_within (T : Txt w K mg) : ∃ f, FunD K "is_within" "is_within" (defArgs s_is_within) (defBody s_is_within) (defScope s_is_within) [] [] (He.fAd K ("is_within", none)) f := T.fd 4
theorem Txt.f_is_tuple (T : Txt w K mg) : ∃ f, FunD K "is_tuple" "is_tuple" (defArgs s_is_tuple) (defBody s_is_tuple) (defScope s_is_tuple) [] [] (He.fAd K ("is_tuple", none)) f := T.fd 5
theorem Txt.f_is_name (T : Txt w K mg) : ∃ f, FunD K "is_name" "is_name" (defArgs s_is_name) (defBody s_is_name) (defScope s_is_name) [] [] (He.fAd K ("is_name", none)) f := T.fd 6
theorem Txt.f_number_in (T : Txt w K mg) : ∃ f, FunD K "number_in" "number_in" (defArgs s_number_in) (defBody s_number_in) (defScope s_number_in) [] [] (He.fAd K ("number_in", none)) f := T.fd 7
theorem Txt.f_is_call (T : Txt w K mg) : ∃ f, FunD K "is_call" "is_call" (defArgs s_is_call) (defBody s_is_call) (defScope s_is_call) [] [] (He.fAd K ("is_call", none)) f := T.fd 8
theorem Txt.f_call_in (T : Txt w K mg) : ∃ f, FunD K "call_in" "call_in" (defArgs s_call_in) (defBody s_call_in) (defScope s_call_in) [] [] (He.fAd K ("call_in", none)) f := T.fd 9
theorem Txt.f_row_text (T : Txt w K mg) : ∃ f, FunD K "row_text" "row_text" (defArgs s_row_text) (defBody s_row_text) (defScope s_row_text) [] [] (He.fAd K ("row_text", none)) f := T.fd 10
theorem Txt.f_read_row (T : Txt w K mg) : ∃ f, FunD K "read_row" "read_row" (defArgs s_read_row) (defBody s_read_row) (defScope s_read_row) [] [] (He.fAd K ("read_row", none)) f := T.fd 11
theorem Txt.f_read_items (T : Txt w K mg) : ∃ f, FunD K "read_items" "read_items" (defArgs s_read_items) (defBody s_read_items) (defScope s_read_items) [] [] (He.fAd K ("read_items", none)) f := T.fd 12
theorem Txt.f_is_item (T : Txt w K mg) : ∃ f, FunD K "is_item" "is_item" (defArgs s_is_item) (defBody s_is_item) (defScope s_is_item) [] [] (He.fAd K ("is_item", none)) f := T.fd 13
theorem Txt.f_item_in (T : Txt w K mg) : ∃ f, FunD K "item_in" "item_in" (defArgs s_item_in) (defBody s_item_in) (defScope s_item_in) [] [] (He.fAd K ("item_in", none)) f := T.fd 14
theorem Txt.f_weaving_text (T : Txt w K mg) : ∃ f, FunD K "weaving_text" "weaving_text" (defArgs s_weaving_text) (defBody s_weaving_text) (defScope s_weaving_text) [] [] (He.fAd K ("weaving_text", none)) f := T.fd 15
theorem Txt.f_read_weaving (T : Txt w K mg) : ∃ f, FunD K "read_weaving" "read_weaving" (defArgs s_read_weaving) (defBody s_read_weaving) (defScope s_read_weaving) [] [] (He.fAd K ("read_weaving", none)) f := T.fd 16
theorem Txt.f_is_any_state (T : Txt w K mg) : ∃ f, FunD K "is_any_state" "is_any_state" (defArgs s_is_any_state) (defBody s_is_any_state) (defScope s_is_any_state) [] [] (He.fAd K ("is_any_state", none)) f := T.fd 17
theorem Txt.f_state_text (T : Txt w K mg) : ∃ f, FunD K "state_text" "state_text" (defArgs s_state_text) (defBody s_state_text) (defScope s_state_text) [] [] (He.fAd K ("state_text", none)) f := T.fd 18
theorem Txt.f_read_state (T : Txt w K mg) : ∃ f, FunD K "read_state" "read_state" (defArgs s_read_state) (defBody s_read_state) (defScope s_read_state) [] [] (He.fAd K ("read_state", none)) f := T.fd 19
theorem Txt.f_l_pool (T : Txt w K mg) : ∃ f, FunD K "_law_pool" "_law_pool" (defArgs s_l_pool) (defBody s_l_pool) (defScope s_l_pool) [] [] (He.fAd K ("_law_pool", none)) f := T.fd 20
theorem Txt.f_l_draw (T : Txt w K mg) : ∃ f, FunD K "_law_draw" "_law_draw" (defArgs s_l_draw) (defBody s_l_draw) (defScope s_l_draw) [] [] (He.fAd K ("_law_draw", none)) f := T.fd 21
theorem Txt.f_l_name (T : Txt w K mg) : ∃ f, FunD K "_law_name" "_law_name" (defArgs s_l_name) (defBody s_l_name) (defScope s_l_name) [] [] (He.fAd K ("_law_name", none)) f := T.fd 22
theorem Txt.f_l_call (T : Txt w K mg) : ∃ f, FunD K "_law_call" "_law_call" (defArgs s_l_call) (defBody s_l_call) (defScope s_l_call) [] [] (He.fAd K ("_law_call", none)) f := T.fd 23
theorem Txt.f_l_item (T : Txt w K mg) : ∃ f, FunD K "_law_item" "_law_item" (defArgs s_l_item) (defBody s_l_item) (defScope s_l_item) [] [] (He.fAd K ("_law_item", none)) f := T.fd 24
theorem Txt.f_l_odd (T : Txt w K mg) : ∃ f, FunD K "_law_odd" "_law_odd" (defArgs s_l_odd) (defBody s_l_odd) (defScope s_l_odd) [] [] (He.fAd K ("_law_odd", none)) f := T.fd 25
theorem Txt.f_l_good_int (T : Txt w K mg) : ∃ f, FunD K "_law_good_int" "_law_good_int" (defArgs s_l_good_int) (defBody s_l_good_int) (defScope s_l_good_int) [] [] (He.fAd K ("_law_good_int", none)) f := T.fd 26
theorem Txt.f_l_good_name (T : Txt w K mg) : ∃ f, FunD K "_law_good_name" "_law_good_name" (defArgs s_l_good_name) (defBody s_l_good_name) (defScope s_l_good_name) [] [] (He.fAd K ("_law_good_name", none)) f := T.fd 27
theorem Txt.f_l_good_call (T : Txt w K mg) : ∃ f, FunD K "_law_good_call" "_law_good_call" (defArgs s_l_good_call) (defBody s_l_good_call) (defScope s_l_good_call) [] [] (He.fAd K ("_law_good_call", none)) f := T.fd 28
theorem Txt.f_l_good_item (T : Txt w K mg) : ∃ f, FunD K "_law_good_item" "_law_good_item" (defArgs s_l_good_item) (defBody s_l_good_item) (defScope s_l_good_item) [] [] (He.fAd K ("_law_good_item", none)) f := T.fd 29
theorem Txt.f_l_call_line (T : Txt w K mg) : ∃ f, FunD K "_law_call_line" "_law_call_line" (defArgs s_l_call_line) (defBody s_l_call_line) (defScope s_l_call_line) [] [] (He.fAd K ("_law_call_line", none)) f := T.fd 30
theorem Txt.f_l_item_line (T : Txt w K mg) : ∃ f, FunD K "_law_item_line" "_law_item_line" (defArgs s_l_item_line) (defBody s_l_item_line) (defScope s_l_item_line) [] [] (He.fAd K ("_law_item_line", none)) f := T.fd 31
theorem Txt.f_l_written (T : Txt w K mg) : ∃ f, FunD K "_law_written" "_law_written" (defArgs s_l_written) (defBody s_l_written) (defScope s_l_written) [] [] (He.fAd K ("_law_written", none)) f := T.fd 32
theorem Txt.f_l_small (T : Txt w K mg) : ∃ f, FunD K "_law_small" "_law_small" (defArgs s_l_small) (defBody s_l_small) (defScope s_l_small) [] [] (He.fAd K ("_law_small", none)) f := T.fd 33
theorem Txt.f_l_line_thing (T : Txt w K mg) : ∃ f, FunD K "_law_line_thing" "_law_line_thing" (defArgs s_l_line_thing) (defBody s_l_line_thing) (defScope s_l_line_thing) [] [] (He.fAd K ("_law_line_thing", none)) f := T.fd 34
theorem Txt.f_l_read (T : Txt w K mg) : ∃ f, FunD K "_law_read" "_law_read" (defArgs s_l_read) (defBody s_l_read) (defScope s_l_read) [] [] (He.fAd K ("_law_read", none)) f := T.fd 35
theorem Txt.f_l_same (T : Txt w K mg) : ∃ f, FunD K "_law_same" "_law_same" (defArgs s_l_same) (defBody s_l_same) (defScope s_l_same) [] [] (He.fAd K ("_law_same", none)) f := T.fd 36
theorem Txt.f_l_writes (T : Txt w K mg) : ∃ f, FunD K "_law_writes" "_law_writes" (defArgs s_l_writes) (defBody s_l_writes) (defScope s_l_writes) [] [] (He.fAd K ("_law_writes", none)) f := T.fd 37
theorem Txt.f_l_reads (T : Txt w K mg) : ∃ f, FunD K "_law_reads" "_law_reads" (defArgs s_l_reads) (defBody s_l_reads) (defScope s_l_reads) [] [] (He.fAd K ("_law_reads", none)) f := T.fd 38
theorem Txt.f_l_asked (T : Txt w K mg) : ∃ f, FunD K "_law_asked" "_law_asked" (defArgs s_l_asked) (defBody s_l_asked) (defScope s_l_asked) [] [] (He.fAd K ("_law_asked", none)) f := T.fd 39
theorem Txt.f_l_thing_holds (T : Txt w K mg) : ∃ f, FunD K "_law_thing_holds" "_law_thing_holds" (defArgs s_l_thing_holds) (defBody s_l_thing_holds) (defScope s_l_thing_holds) [] [] (He.fAd K ("_law_thing_holds", none)) f := T.fd 40
theorem Txt.f_l_text_holds (T : Txt w K mg) : ∃ f, FunD K "_law_text_holds" "_law_text_holds" (defArgs s_l_text_holds) (defBody s_l_text_holds) (defScope s_l_text_holds) [] [] (He.fAd K ("_law_text_holds", none)) f := T.fd 41
theorem Txt.f_l_spoilt (T : Txt w K mg) : ∃ f, FunD K "_law_spoilt" "_law_spoilt" (defArgs s_l_spoilt) (defBody s_l_spoilt) (defScope s_l_spoilt) [] [] (He.fAd K ("_law_spoilt", none)) f := T.fd 42
theorem Txt.f_l_sign (T : Txt w K mg) : ∃ f, FunD K "_law_sign" "_law_sign" (defArgs s_l_sign) (defBody s_l_sign) (defScope s_l_sign) [] [] (He.fAd K ("_law_sign", none)) f := T.fd 43
theorem Txt.f_l_odd_line (T : Txt w K mg) : ∃ f, FunD K "_law_odd_line" "_law_odd_line" (defArgs s_l_odd_line) (defBody s_l_odd_line) (defScope s_l_odd_line) [] [] (He.fAd K ("_law_odd_line", none)) f := T.fd 44
theorem Txt.f_l_changed (T : Txt w K mg) : ∃ f, FunD K "_law_changed" "_law_changed" (defArgs s_l_changed) (defBody s_l_changed) (defScope s_l_changed) [] [] (He.fAd K ("_law_changed", none)) f := T.fd 45
theorem Txt.f_law (T : Txt w K mg) : ∃ f, FunD K "law" "law" (defArgs s_law) (defBody s_law) (defScope s_law) [] [] (He.fAd K ("law", none)) f := T.fd 46
theorem Txt.e_NoRow (T : Txt w K mg) : oexB K "NoRow" "index" = true := (He.ba T.ex).1
theorem Txt.e_NoWeaving (T : Txt w K mg) : oexB K "NoWeaving" "index" = true := (He.ba (He.ba T.ex).2).1
theorem Txt.e_NoText (T : Txt w K mg) : oexB K "NoText" "line" = true := (He.ba (He.ba (He.ba T.ex).2).2).1
theorem Txt.e_PastError (T : Txt w K mg) : pinB K "PastError" = true := (He.ba (He.ba (He.ba T.ex).2).2).2
end
end M

set_option Elab.async false
set_option linter.all false
set_option maxRecDepth 100000
set_option maxHeartbeats 2000000
namespace M
open PySem PySem.Spec PyProof.Rows L2
/-! ### defs by their names, what they promise -/
/-- the global name x holds a def that keeps sp at level k -/
structure Ca (P : Program) (w : World) (K : PySem.W.Frag) (mg : Str → Option Value) (base : Heap) (k : Nat) (x : Str) (sp : Sp) : Prop where
  ex : ∃ (f : Addr) (fd : FuncData) (ps : List Str), FnOk P w K mg base CX0 k f fd ps sp ∧ mg x = some (.ref f) ∧ PySem.W.keepIn K (.ref f) = true ∧ Binds K fd ps []
/-- a method of the class C -/
structure Me (P : Program) (w : World) (K : PySem.W.Frag) (mg : Str → Option Value) (base : Heap) (k : Nat) (C : Addr) (m : Str) (sp : Sp) : Prop where
  ex : ∃ (f : Addr) (fd : FuncData) (ps : List Str), Cls K C ∧ Meth K C m f ∧ FnOk P w K mg base CX0 k f fd ps sp ∧ Binds K fd ps []
/-- the class x is made by its __init__ -/
structure Ma (P : Program) (w : World) (K : PySem.W.Frag) (mg : Str → Option Value) (base : Heap) (k : Nat) (x : Str) (C : Addr) (sp : Sp) : Prop where
  ex : ∃ (f : Addr) (fd : FuncData) (ps : List Str), Mk K C f ∧ FnOk P w K mg base CX0 k f fd ps sp ∧ mg x = some (.ref C) ∧ Binds K fd ps []
section
variable {P : Program} {w : World} {K : PySem.W.Frag} {mg : Str → Option Value} {base : Heap} {x m q : Str} {st : Stmt} {N ps : List Str} {k : Nat} {sp : Sp} {C f : Addr}
abbrev BindsH (x q : Str) (st : Stmt) (ps : List Str) : Prop := ∀ (kV doc pm : Value) (an : Option Addr) (cdv ct : Value) (us : List Value), us.length = ps.length → bindArgs (PySem.W.fnOf x q (defArgs st) (defBody st) (defScope st) .none kV doc pm an cdv ct) ⟨us, []⟩ = pure (ps.zip us)
abbrev BodyH (P : Program) (w : World) (K : PySem.W.Frag) (mg : Str → Option Value) (base : Heap) (q : Str) (st : Stmt) (N : List Str) (k : Nat) (f : Addr) (sp : Sp) : Prop := ∀ (cdv : Value) (A : Around) (outer : List Env) (s : Shared) (H : Hp) (vs : List V) (Q : VK) (E : XK), Room k (A.deeper (envOfC q (defScope st) s.heap.objs.size f cdv)) → sp vs H Q E →
      ∃ t, PSs (cxOf CX0 P w K mg base N q (defScope st) f cdv A outer s H E).nox (defBody st) t ∧ t { nx := fun _ H' => Q .non H', rt := Q } (start N vs) H
theorem fn_d {fd : FuncData} (F : FunD K x q (defArgs st) (defBody st) (defScope st) [] [] f fd) (S : FnScope N ps (defScope st)) (len : ∀ vs H Q E, sp vs H Q E → vs.length = ps.length)
    (hbody : BodyH P w K mg base q st N k f sp) : FnOk P w K mg base CX0 (k + 1) f fd ps sp := by
  refine F.ok S len (fun cdv A outer s H vs Q E hr h => ?_)
  obtain ⟨t, h1, h2⟩ := hbody cdv A outer s H vs Q E hr h
  exact ⟨t, h1.nox, h2⟩
theorem ca_of (F : ∃ fd, FunD K x x (defArgs st) (defBody st) (defScope st) [] [] (He.fAd K (x, none)) fd) (g : mg x = some (.ref (He.ga K x))) (S : FnScope N ps (defScope st)) (hb : BindsH x x st ps) (len : ∀ vs H Q E, sp vs H Q E → vs.length = ps.length)
    (hbody : BodyH P w K mg base x st N k (He.fAd K (x, none)) sp) : Ca P w K mg base (k + 1) x sp := by
  obtain ⟨fd, F⟩ := F
  exact ⟨_, fd, ps, fn_d F S len hbody, g, F.kp, F.bindsN hb⟩
theorem me_of {C : Str} (F : ∃ fd, FunD K m q (defArgs st) (defBody st) (defScope st) [] [] (He.fAd K (C, some m)) fd) (c : Cls K (He.ga K C)) (g : Meth K (He.ga K C) m (He.ma K (He.ga K C) m)) (S : FnScope N ps (defScope st)) (hb : BindsH m q st ps) (len : ∀ vs H Q E, sp vs H Q E → vs.length = ps.length)
    (hbody : BodyH P w K mg base q st N k (He.fAd K (C, some m)) sp) : Me P w K mg base (k + 1) (He.ga K C) m sp := by
  obtain ⟨fd, F⟩ := F
  exact ⟨_, fd, ps, c, g, fn_d F S len hbody, F.bindsN hb⟩
theorem ma_of {C : Str} (F : ∃ fd, FunD K "__init__" q (defArgs st) (defBody st) (defScope st) [] [] (He.fAd K (C, some "__init__")) fd) (g : mg C = some (.ref (He.ga K C))) (mk : Mk K (He.ga K C) (He.ma K (He.ga K C) "__init__")) (S : FnScope N ps (defScope st)) (hb : BindsH "__init__" q st ps) (len : ∀ vs H Q E, sp vs H Q E → vs.length = ps.length)
    (hbody : BodyH P w K mg base q st N k (He.fAd K (C, some "__init__")) sp) : Ma P w K mg base (k + 1) C (He.ga K C) sp := by
  obtain ⟨fd, F⟩ := F
  exact ⟨_, fd, ps, mk, fn_d F S len hbody, g, F.bindsN hb⟩
theorem Ca.mono {j : Nat} (c : Ca P w K mg base j x sp) (h : j ≤ k) : Ca P w K mg base k x sp := by
  obtain ⟨f, fd, ps, F, r⟩ := c.ex
  exact ⟨f, fd, ps, F.mono h, r⟩
end
section
variable {X : Cx} {k j : Nat} {x m : Str} {sp : Sp} {C : Addr} {p pos apos : Pos} {e o : Expr} {es : List Expr} {t : TA} {ta : TE}
theorem pe_ca (c : Ca X.prog X.w X.K X.mg X.base k x sp) (hr : Room j X.A) (ha : PA X (e :: es) t) (hk : k ≤ j := by decide) (hg : Gl X x := by rfl)
    (hdb : (x == ("__debug__" : Str)) = false := by decide) (he : starEach (e :: es) X.env = (false, eval e X.env) :: starEach es X.env := by rfl) (hpl : (backTo pos (starEach es X.env)).any (·.1) = false := by rfl) :
    PE X (.Call (.Name x p) (e :: es) [] pos) (tCall sp [] E0 t) := by
  obtain ⟨f, fd, ps, F, hm, kp, b⟩ := c.ex
  exact pe_call F (hr.mono hk) hg hm kp b .nil pass0 ha hdb he hpl
theorem pe_ma (c : Ma X.prog X.w X.K X.mg X.base k x C sp) (hr : Room j X.A) (ha : PA X (e :: es) t) (hk : k + 1 ≤ j := by decide) (hg : Gl X x := by rfl)
    (hdb : (x == ("__debug__" : Str)) = false := by decide) (he : starEach (e :: es) X.env = (false, eval e X.env) :: starEach es X.env := by rfl) (hpl : (backTo pos (starEach es X.env)).any (·.1) = false := by rfl) :
    PE X (.Call (.Name x p) (e :: es) [] pos) (tMake C sp [] E0 t) := by
  obtain ⟨f, fd, ps, M, F, hm, b⟩ := c.ex
  exact pe_make M F (hr.mono hk) hg hm b .nil pass0 ha hdb he hpl
theorem pe_me0 {pl : Sem Bool} (c : Me X.prog X.w X.K X.mg X.base k C m sp) (hr : Room j X.A) (he : PE X o ta) (hk : k ≤ j := by decide)
    (ht : eval (.Call (.Attribute o m apos) [] [] pos) X.env = (do
      let ov ← eval o X.env
      standAt apos.atName
      let (f, first) ← holding [ov] (getMethod ov m pl)
      callWith pos f first (backTo pos (starEach [] X.env)) (backToKw pos (keywordEach [] X.env))) := by rfl) :
    PE X (.Call (.Attribute o m apos) [] [] pos) (tMeth C m sp [] E0 ta tNil) := by
  obtain ⟨f, fd, ps, hc, hm, F, b⟩ := c.ex
  exact pe_meth0 (pl := pl) he hc hm F (hr.mono hk) b .nil pass0 ht
theorem pe_me {pl : Sem Bool} (c : Me X.prog X.w X.K X.mg X.base k C m sp) (hr : Room j X.A) (he : PE X o ta) (ha : PA X (e :: es) t) (hk : k ≤ j := by decide)
    (hst : starEach (e :: es) X.env = (false, eval e X.env) :: starEach es X.env := by rfl) (hpl : (backTo pos (starEach es X.env)).any (·.1) = false := by rfl)
    (ht : eval (.Call (.Attribute o m apos) (e :: es) [] pos) X.env = (do
      let ov ← eval o X.env
      standAt apos.atName
      let (f, first) ← holding [ov] (getMethod ov m pl)
      callWith pos f first (backTo pos (starEach (e :: es) X.env)) (backToKw pos (keywordEach [] X.env))) := by rfl) :
    PE X (.Call (.Attribute o m apos) (e :: es) [] pos) (tMeth C m sp [] E0 ta t) := by
  obtain ⟨f, fd, ps, hc, hm, F, b⟩ := c.ex
  exact pe_meth (pl := pl) he hc hm F (hr.mono hk) b .nil pass0 ha hst hpl ht
/-- isinstance(a, b) -/
theorem pe_isi {a b : Expr} {ta tb : TE} (h : X.mg "isinstance" = none) (ha : PE X a ta) (hb : PE X b tb) (hg : Gl X "isinstance" := by rfl)
    (he : starEach [a, b] X.env = (false, eval a X.env) :: starEach [b] X.env := by rfl) (hpl : (backTo pos (starEach [b] X.env)).any (·.1) = false := by rfl)
    (he2 : starEach [b] X.env = (false, eval b X.env) :: starEach [] X.env := by rfl) :
    PE X (.Call (.Name "isinstance" p) [a, b] [] pos) (tCB (rIsi X.K) (tCons ta (tCons tb tNil))) :=
  pe_callB call_isi hg h boot_isinstance (pa_cons ha (pa_cons hb pa_nil he2) he) (he := he) (hpl := hpl)
/-- a built-in class as a value -/
theorem pe_ty {n : String} {x : Str} (h : X.mg x = none) (hv : bootBuiltins x = some (.type n)) (hg : Gl X x := by rfl) (hn : x ≠ "__name__" := by decide) (hd : (x == ("__debug__" : Str)) = false := by decide) : PE X (.Name x pos) (tC (.ty n)) := pe_bltn hg h hv rfl hn hd
theorem pe_gi {n : Int} {x : Str} (h : ∃ u, X.mg x = some u ∧ RelV (.int n) u) (hg : Gl X x := by rfl) (hd : (x == ("__debug__" : Str)) = false := by decide) : PE X (.Name x pos) (tC (.int n)) := by
  obtain ⟨u, hm, r⟩ := h
  exact pe_glob hg hm r hd
theorem pe_gr {x : Str} {a : Addr} (h : X.mg x = some (.ref a)) (hg : Gl X x := by rfl) (hd : (x == ("__debug__" : Str)) = false := by decide) : PE X (.Name x pos) (tC (.ref a)) := pe_glob hg h rfl hd
end
section
variable {X : Cx} {i j k : Nat} {x y z : Str} {p1 p2 p3 pos : Pos} {n : Nat}
/-- a, b as a target -/
theorem pg_two (K : PySem.W.Frag) (i j : Nat) (hK : X.K = K) (hc : X.calm = true) (nd : X.N.Nodup) (hi : X.N[i]? = some x) (hj : X.N[j]? = some y) (hx : Loc X.env.scope x) (hy : Loc X.env.scope y)
    (fx : X.fn x = true ∨ X.env.scope.names.lookup x = some .local) (fy : X.fn y = true ∨ X.env.scope.names.lookup y = some .local) :
    PG X (.Tuple [.Name x p1, .Name y p2] n pos) (gTup K 2 (gCons (gName i) (gCons (gName j) gNil))) := hK ▸
  pg_tup hc (pgs_cons (pg_name nd hi hx fx) (pgs_cons (pg_name nd hj hy fy) pgs_nil))
/-- a, b, c as a target -/
theorem pg_three (K : PySem.W.Frag) (i j k : Nat) (hK : X.K = K) (hc : X.calm = true) (nd : X.N.Nodup) (hi : X.N[i]? = some x) (hj : X.N[j]? = some y) (hk : X.N[k]? = some z) (hx : Loc X.env.scope x) (hy : Loc X.env.scope y) (hz : Loc X.env.scope z)
    (fx : X.fn x = true ∨ X.env.scope.names.lookup x = some .local) (fy : X.fn y = true ∨ X.env.scope.names.lookup y = some .local) (fz : X.fn z = true ∨ X.env.scope.names.lookup z = some .local) :
    PG X (.Tuple [.Name x p1, .Name y p2, .Name z p3] n pos) (gTup K 3 (gCons (gName i) (gCons (gName j) (gCons (gName k) gNil)))) := hK ▸
  pg_tup hc (pgs_cons (pg_name nd hi hx fx) (pgs_cons (pg_name nd hj hy fy) (pgs_cons (pg_name nd hk hz fz) pgs_nil)))
end
theorem boot_int : bootBuiltins "int" = some (.type "int") := by decide +kernel
theorem boot_bool : bootBuiltins "bool" = some (.type "bool") := by decide +kernel
theorem boot_str : bootBuiltins "str" = some (.type "str") := by decide +kernel
theorem boot_list : bootBuiltins "list" = some (.type "list") := by decide +kernel
theorem boot_tuple : bootBuiltins "tuple" = some (.type "tuple") := by decide +kernel
theorem boot_abs : bootBuiltins "abs" = some (.builtin "abs") := by decide +kernel
theorem boot_max : bootBuiltins "max" = some (.builtin "max") := by decide +kernel
theorem boot_min : bootBuiltins "min" = some (.builtin "min") := by decide +kernel
theorem boot_set : bootBuiltins "set" = some (.type "set") := by decide +kernel
/-! ### kinds of values -/
/-- the kinds that the program asks for -/
inductive Kd where
  | non | bool | int | str | list | tuple | dict | obj
  deriving DecidableEq
def Kd.name : Kd → String
  | .non => "NoneType" | .bool => "bool" | .int => "int" | .str => "str" | .list => "list" | .tuple => "tuple" | .dict => "dict" | .obj => "object"
/-- isinstance's answer -/
def Kd.is (k c : Kd) : Bool := decide (k = c) || (decide (k = .bool) && decide (c = .int))
theorem kd_kit {K : PySem.W.Frag} (k c : Kd) (h : k ≠ .obj) (h2 : c ≠ .obj) : PySem.W.kitOne K (.type k.name) (.type c.name) = some (k.is c) := by
  refine kit_ty ?_
  cases k <;> cases c <;> first | decide +kernel | exact absurd rfl h | exact absurd rfl h2
/-- v is of the kind k -/
inductive Of (K : PySem.W.Frag) (H : Hp) : V → Kd → Prop where
  | non : Of K H .non .non
  | bl (b : Bool) : Of K H (.bl b) .bool
  | int (i : Int) : Of K H (.int i) .int
  | str (x : Str) : Of K H (.str x) .str
  | list {a : Addr} {xs : List V} (h : SqL K H a xs) : Of K H (.ref a) .list
  | tuple {a : Addr} {xs : List V} (h : SqT K H a xs) : Of K H (.ref a) .tuple
  | dict {a : Addr} (h : TyX K H (.ref a) (.type "dict")) : Of K H (.ref a) .dict
  | obj {a C : Addr} (h : TyX K H (.ref a) (.ref C)) (hk : ∀ c : Kd, c ≠ .obj → PySem.W.kitOne K (.ref C) (.type c.name) = some false) : Of K H (.ref a) .obj
theorem ty_sqL {K : PySem.W.Frag} {H : Hp} {a : Addr} {xs : List V} (h : SqL K H a xs) : TyX K H (.ref a) (.type "list") := by
  rcases h with (h | ⟨o, h⟩) | ⟨o, its, n, h1, h2, _⟩
  · exact .base (.lst h)
  · exact .base (.frz h)
  · exact .kList h1 h2
theorem ty_sqT {K : PySem.W.Frag} {H : Hp} {a : Addr} {xs : List V} (h : SqT K H a xs) : TyX K H (.ref a) (.type "tuple") := by
  rcases h with (h | ⟨o, h⟩) | ⟨o, its, n, h1, h2, _⟩
  · exact .base (.tup h)
  · exact .fTuple h
  · exact .kTuple h1 h2
/-- what isinstance(v, c) comes to -/
theorem isi_k {K : PySem.W.Frag} {H : Hp} {v : V} {k : Kd} (c : Kd) {Q : VK} (h : Of K H v k) (q : Q (.bl (k.is c)) H) (hc : c ≠ .obj := by decide) : rIsi K [v, .ty c.name] H Q := by
  cases h with
  | non => exact ⟨_, _, _, _, _, rfl, .ty _, .base .non, kd_kit .non c (by decide) hc, q⟩
  | bl b => exact ⟨_, _, _, _, _, rfl, .ty _, .base (.bl b), kd_kit .bool c (by decide) hc, q⟩
  | int b => exact ⟨_, _, _, _, _, rfl, .ty _, .base (.int b), kd_kit .int c (by decide) hc, q⟩
  | str b => exact ⟨_, _, _, _, _, rfl, .ty _, .base (.str b), kd_kit .str c (by decide) hc, q⟩
  | list b => exact ⟨_, _, _, _, _, rfl, .ty _, ty_sqL b, kd_kit .list c (by decide) hc, q⟩
  | tuple b => exact ⟨_, _, _, _, _, rfl, .ty _, ty_sqT b, kd_kit .tuple c (by decide) hc, q⟩
  | dict b => exact ⟨_, _, _, _, _, rfl, .ty _, b, kd_kit .dict c (by decide) hc, q⟩
  | obj b hk => 
    have e : Kd.is .obj c = false := by cases c <;> first | rfl | exact absurd rfl hc
    rw [e] at q
    exact ⟨_, _, _, _, _, rfl, .ty _, b, hk c hc, q⟩
theorem pe_imp {X : Cx} {e : Expr} {t t' : TE} (h : PE X e t) (i : ∀ σ H Q, t' σ H Q → t σ H Q) : PE X e t' := ⟨fun pins s σ H Q I q => h.run pins s σ H Q I (i σ H Q q)⟩
theorem callR_imp {X : Cx} {f : Value} {r r' : List V → Hp → VK → Prop} (h : CallR X f r) (i : ∀ vs H Q, r' vs H Q → r vs H Q) : CallR X f r' := fun pins s σ H xs us Q I rv q => h pins s σ H xs us Q I rv (i xs H Q q)
/-- isinstance(v, c): its kind -/
def rIs (K : PySem.W.Frag) (c : Kd) : List V → Hp → VK → Prop := fun xs H Q => ∃ (v : V) (k : Kd), xs = [v, .ty c.name] ∧ Of K H v k ∧ Q (.bl (k.is c)) H
theorem call_is {X : Cx} (c : Kd) (hc : c ≠ .obj := by decide) : CallR X (.builtin "isinstance") (rIs X.K c) := callR_imp call_isi fun vs H Q ⟨v, k, e, h, q⟩ => by
  subst e
  exact isi_k c h q hc
section
variable {X : Cx} {a : Expr} {ta : TE} {x : Str} {p p2 pos : Pos}
theorem pe_is (c : Kd) (h : X.mg "isinstance" = none) (ha : PE X a ta) (hm : X.mg x = none) (hv : bootBuiltins x = some (.type c.name)) (hc : c ≠ .obj := by decide) (hg2 : Gl X x := by rfl) (hn : x ≠ "__name__" := by decide) (hd : (x == ("__debug__" : Str)) = false := by decide) (hg : Gl X "isinstance" := by rfl)
    (he : starEach [a, .Name x p2] X.env = (false, eval a X.env) :: starEach [.Name x p2] X.env := by rfl) (hpl : (backTo pos (starEach [.Name x p2] X.env)).any (·.1) = false := by rfl)
    (he2 : starEach [.Name x p2] X.env = (false, eval (.Name x p2) X.env) :: starEach [] X.env := by rfl) :
    PE X (.Call (.Name "isinstance" p) [a, .Name x p2] [] pos) (tCB (rIs X.K c) (tCons ta (tCons (tC (.ty c.name)) tNil))) :=
  pe_callB (call_is c hc) hg h boot_isinstance (pa_cons ha (pa_cons (pe_ty (pos := p2) hm hv hg2 hn hd) pa_nil he2) he) (he := he) (hpl := hpl)
end
/-! ### data -/
theorem same_t {K : PySem.W.Frag} {H H' : Hp} {a : Addr} {xs : List V} (e : Same H H') (h : SqT K H a xs) : SqT K H' a xs := by
  rcases h with (h | ⟨o, h⟩) | h
  · exact .inl (.inl (e _ _ h))
  · exact .inl (.inr ⟨o, e _ _ h⟩)
  · exact .inr h
theorem same_new {H : Hp} {p : Addr} {o : HO} (h : H p = none) : Same H (upd H p o) := fun a u e => by
  rw [upd_ne (ne_of_none e h)]
  exact e
mutual
theorem dp_same {K : PySem.W.Frag} {H H' : Hp} (e : Same H H') : ∀ {v : V} {d : PyData}, Dp K H v d → Dp K H' v d
  | _, _, .non => .non
  | _, _, .bl b => .bl b
  | _, _, .int i => .int i
  | _, _, .str x => .str x
  | _, _, .lst h r => .lst (e.seq h) (dps_same e r)
  | _, _, .tup h r => .tup (same_t e h) (dps_same e r)
theorem dps_same {K : PySem.W.Frag} {H H' : Hp} (e : Same H H') : ∀ {vs : List V} {ds : List PyData}, DpAll K H vs ds → DpAll K H' vs ds
  | _, _, .nil => .nil
  | _, _, .cons h r => .cons (dp_same e h) (dps_same e r)
end
def kdOf : PyData → Kd
  | .bool _ => .bool
  | .int _ => .int
  | .str _ => .str
  | .list _ => .list
  | .tuple _ => .tuple
  | _ => .non
theorem dp_kd {K : PySem.W.Frag} {H : Hp} {v : V} {d : PyData} (h : Dp K H v d) : Of K H v (kdOf d) := by
  cases h with
  | non => exact .non
  | bl b => exact .bl b
  | int i => exact .int i
  | str x => exact .str x
  | lst h _ => exact .list h
  | tup h _ => exact .tuple h
end M

set_option Elab.async false
set_option linter.all false
set_option maxRecDepth 100000
set_option maxHeartbeats 2000000
namespace M
open PySem PySem.Spec PyProof.Rows L2

section
variable {P : Program} {w : World} {K : PySem.W.Frag} {mg : Str → Option Value} {base : Heap}
/-! ### pastless.checks -/
def spInteger (K : PySem.W.Frag) : Sp := fun vs H Q _ => ∃ (v : V) (k : Kd), vs = [v] ∧ Of K H v k ∧ Q (.bl (decide (k = .int))) H
theorem ca_is_integer (T : Txt w K mg) : Ca P w K mg base 1 "is_integer" (spInteger K) := by
  refine ca_of (N := ["value"]) (ps := ["value"]) T.f_is_integer T.g_is_integer ⟨rfl, rfl, rfl, by decide +kernel, rfl, by decide +kernel, by decide +kernel⟩ (fun _ _ _ _ _ _ us hl => match us, hl with | [_], _ => rfl)
    (fun vs H Q E h => by obtain ⟨v, k, rfl, hk, q⟩ := h; rfl) (fun cdv A outer s H vs Q E hr h => ?_)
  have nd : (["value"] : List Str).Nodup := by decide +kernel
  obtain ⟨v, k, rfl, hk, q⟩ := h
  refine ⟨_, pss_one (ps_ret (pe_and (pe_is .int T.b_isinstance (pv 0) T.b_int boot_int) (pe_one (pe_not (pe_is .bool T.b_isinstance (pv 0) T.b_bool boot_bool))))), ?_⟩
  refine ⟨_, rfl, _, _, rfl, hk, _, rfl, ?_⟩
  cases k <;> first | exact iteF q | exact iteT ⟨_, rfl, _, _, rfl, hk, _, rfl, q⟩
def spWithin : Sp := fun vs H Q _ => ∃ (i lo hi : Int), vs = [.int i, .int lo, .int hi] ∧ Q (.bl (decide (lo ≤ i) && decide (i ≤ hi))) H
theorem ca_is_within (T : Txt w K mg) : Ca P w K mg base 2 "is_within" (spWithin) := by
  refine ca_of (N := ["value", "least", "greatest"]) (ps := ["value", "least", "greatest"]) T.f_is_within T.g_is_within ⟨rfl, rfl, rfl, by decide +kernel, rfl, by decide +kernel, by decide +kernel⟩ (fun _ _ _ _ _ _ us hl => match us, hl with | [_, _, _], _ => rfl)
    (fun vs H Q E h => by obtain ⟨i, lo, hi, rfl, q⟩ := h; rfl) (fun cdv A outer s H vs Q E hr h => ?_)
  have nd : (["value", "least", "greatest"] : List Str).Nodup := by decide +kernel
  obtain ⟨i, lo, hi, rfl, q⟩ := h
  refine ⟨_, pss_one (ps_ret (pe_and (pe_ca (ca_is_integer T) hr (pa_cons (pv 0) pa_nil)) (pe_one (pe_chain op_le op_le (pv 1) (pv 0) (pv 2))))), ?_⟩
  refine ⟨_, rfl, _, _, rfl, .int i, _, rfl, iteT ?_⟩
  refine ⟨_, rfl, _, rfl, _, _, rfl, rfl, _, rfl, ?_⟩
  by_cases c : lo ≤ i
  · rw [decide_eq_true c] at q ⊢
    exact iteT ⟨_, rfl, _, _, rfl, rfl, q⟩
  · rw [decide_eq_false c] at q ⊢
    exact iteF q
/-- within its bounds -/
theorem within_t {i lo hi : Int} (h : lo ≤ i ∧ i ≤ hi) : (decide (lo ≤ i) && decide (i ≤ hi)) = true := by simp [h.1, h.2]
def spTuple (K : PySem.W.Frag) : Sp := fun vs H Q _ => ∃ (a : Addr) (xs : List V) (n : Int), vs = [.ref a, .int n] ∧ SqT K H a xs ∧ Q (.bl (decide ((xs.length : Int) = n))) H
theorem ca_is_tuple (T : Txt w K mg) : Ca P w K mg base 1 "is_tuple" (spTuple K) := by
  refine ca_of (N := ["value", "length"]) (ps := ["value", "length"]) T.f_is_tuple T.g_is_tuple ⟨rfl, rfl, rfl, by decide +kernel, rfl, by decide +kernel, by decide +kernel⟩ (fun _ _ _ _ _ _ us hl => match us, hl with | [_, _], _ => rfl)
    (fun vs H Q E h => by obtain ⟨a, xs, n, rfl, hs, q⟩ := h; rfl) (fun cdv A outer s H vs Q E hr h => ?_)
  have nd : (["value", "length"] : List Str).Nodup := by decide +kernel
  obtain ⟨a, xs, n, rfl, hs, q⟩ := h
  refine ⟨_, pss_one (ps_ret (pe_and (pe_is .tuple T.b_isinstance (pv 0) T.b_tuple boot_tuple) (pe_one (pe_cmpR op_eq (pe_callB call_len_seq (by rfl) T.b_len PySem.boot_len (pa_cons (pv 0) pa_nil)) (pv 1) (nomark _))))), ?_⟩
  refine ⟨_, rfl, _, _, rfl, .tuple hs, _, rfl, iteT ?_⟩
  refine ⟨_, rfl, _, _, rfl, .inr hs, _, rfl, rfl, ?_⟩
  rw [show (decide (V.int (xs.length : Int) = V.int n)) = decide ((xs.length : Int) = n) from by simp]
  exact q
/-- hs is a state of cells of the sizes ss -/
def StateOk (ss hs : List Int) : Prop := ss.length = hs.length ∧ ∀ (i : Nat) (s h : Int), ss[i]? = some s → hs[i]? = some h → 0 ≤ h ∧ h < s
theorem get_map {l : List Int} {i : Nat} {x : V} (h : (l.map V.int)[i]? = some x) : ∃ z, l[i]? = some z ∧ x = .int z := by
  rw [List.getElem?_map] at h
  cases e : l[i]? with
  | none => rw [e] at h; cases h
  | some z => rw [e] at h; exact ⟨z, rfl, (Option.some.inj h).symm⟩
def spState (K : PySem.W.Frag) : Sp := fun vs H Q _ => ∃ (a b : Addr) (ss hs : List Int), vs = [.ref a, .ref b] ∧ SqT K H a (ss.map .int) ∧ SqT K H b (hs.map .int) ∧ StateOk ss hs ∧ ∀ H', Same H H' → Q (.bl true) H'
end

end M

set_option Elab.async false
set_option linter.all false
set_option maxRecDepth 100000
set_option maxHeartbeats 2000000
namespace M
open PySem PySem.Spec PyProof.Rows L2

/-! ### what bodies, codes and vaults are -/
inductive Exp where
  | num (n : Int) | reg (r : Str) | op (s : Str) (a b : Exp)
def Exp.d : Exp → PyData
  | .num n => .int n
  | .reg r => .str r
  | .op s a b => .tuple [.str s, a.d, b.d]
inductive Row where
  | read (r : Str) (c : Int) | set (c : Int) (e : Exp) | swap (r : Str) (c : Int) (e f : Exp) | keep (r : Str) (e : Exp) | coin (r : Str)
  | iff (e : Exp) (a b : List Row) | times (e : Exp) (a : List Row) | ans (e : Exp)
mutual
def Row.d : Row → PyData
  | .read r c => .tuple [.str "read", .str r, .int c]
  | .set c e => .tuple [.str "set", .int c, e.d]
  | .swap r c e f => .tuple [.str "swap", .str r, .int c, e.d, f.d]
  | .keep r e => .tuple [.str "keep", .str r, e.d]
  | .coin r => .tuple [.str "coin", .str r]
  | .iff e a b => .tuple [.str "if", e.d, .tuple (rowsD a), .tuple (rowsD b)]
  | .times e a => .tuple [.str "times", e.d, .tuple (rowsD a)]
  | .ans e => .tuple [.str "answer", e.d]
def rowsD : List Row → List PyData
  | [] => []
  | r :: rs => r.d :: rowsD rs
end
/-- a row of a code -/
inductive FR where
  | row (r : Row) | unless (e : Exp) (p : Nat) | on (p : Nat) | rounds (e : Exp) | round (p : Nat) | hole
def FR.d : FR → PyData
  | .row r => r.d
  | .unless e p => .tuple [.str "unless", e.d, .int p]
  | .on p => .tuple [.str "on", .int p]
  | .rounds e => .tuple [.str "rounds", e.d]
  | .round p => .tuple [.str "round", .int p]
  | .hole => .tuple []
mutual
def putRow : Row → List FR → List FR
  | .iff e a b, c =>
    let c1 := putRows a (c ++ [FR.hole])
    let c2 := putRows b ((c1 ++ [FR.hole]).set c.length (FR.unless e (c1.length + 1)))
    c2.set c1.length (FR.on c2.length)
  | .times e a, c =>
    let c1 := putRows a (c ++ [FR.rounds e, FR.hole])
    (c1 ++ [FR.on (c.length + 1)]).set (c.length + 1) (FR.round (c1.length + 1))
  | .read r k, c => c ++ [.row (.read r k)]
  | .set k e, c => c ++ [.row (.set k e)]
  | .swap r k e f, c => c ++ [.row (.swap r k e f)]
  | .keep r e, c => c ++ [.row (.keep r e)]
  | .coin r, c => c ++ [.row (.coin r)]
  | .ans e, c => c ++ [.row (.ans e)]
def putRows : List Row → List FR → List FR
  | [], c => c
  | r :: rs, c => putRows rs (putRow r c)
end
def codeOf (rows : List Row) : List FR := putRows rows [] ++ [.row (.ans (.num 0))]
structure Vlt where
  cells : List (Int × Int)
  deeds : List (Str × Int × List Row)
def cellD (c : Int × Int) : PyData := .tuple [.int c.1, .int c.2]
def deedD (d : Str × Int × List Row) : PyData := .tuple [.str d.1, .int d.2.1, .tuple (rowsD d.2.2)]
def Vlt.calls (v : Vlt) : List (Str × Int) := v.deeds.flatMap fun d => (List.range d.2.1.toNat).map fun (j : Nat) => (d.1, (j : Int))
def codeD (rows : List Row) : PyData := .tuple ((codeOf rows).map FR.d)
/-- what the attributes of a vault hold -/
def vflds (a d c : Addr) (b : Bool) : List (Str × V) := putF "_coins" (.bl b) (putF "_codes" (.ref c) (putF "_deeds" (.ref d) (putF "_cells" (.ref a) [])))
theorem v1 : ¬ (("_cells" : Str) = "_deeds") := by decide +kernel
theorem v2 : ¬ (("_cells" : Str) = "_codes") := by decide +kernel
theorem v3 : ¬ (("_cells" : Str) = "_coins") := by decide +kernel
theorem v4 : ¬ (("_deeds" : Str) = "_codes") := by decide +kernel
theorem v5 : ¬ (("_deeds" : Str) = "_coins") := by decide +kernel
theorem v6 : ¬ (("_codes" : Str) = "_coins") := by decide +kernel
theorem vf_cells (a d c : Addr) (b : Bool) : (vflds a d c b).lookup ("_cells" : Str) = some (.ref a) := by
  unfold vflds
  rw [lookup_putF, if_neg v3, lookup_putF, if_neg v2, lookup_putF, if_neg v1, lookup_putF, if_pos rfl]
theorem vf_deeds (a d c : Addr) (b : Bool) : (vflds a d c b).lookup ("_deeds" : Str) = some (.ref d) := by
  unfold vflds
  rw [lookup_putF, if_neg v5, lookup_putF, if_neg v4, lookup_putF, if_pos rfl]
theorem vf_codes (a d c : Addr) (b : Bool) : (vflds a d c b).lookup ("_codes" : Str) = some (.ref c) := by
  unfold vflds
  rw [lookup_putF, if_neg v6, lookup_putF, if_pos rfl]
theorem vf_coins (a d c : Addr) (b : Bool) : (vflds a d c b).lookup ("_coins" : Str) = some (.bl b) := by
  unfold vflds
  rw [lookup_putF, if_pos rfl]
theorem vf_no (a d c : Addr) (b : Bool) {m : Str} (h1 : ¬ m = "_cells") (h2 : ¬ m = "_deeds") (h3 : ¬ m = "_codes") (h4 : ¬ m = "_coins") : (vflds a d c b).lookup m = none := by
  unfold vflds
  rw [lookup_putF, if_neg h4, lookup_putF, if_neg h3, lookup_putF, if_neg h2, lookup_putF, if_neg h1]
  rfl
/-- the codes by the names of the deeds -/
def CodesR (K : PySem.W.Frag) (H : Hp) : List (Key × V) → List (Str × Int × List Row) → Prop
  | [], [] => True
  | (k, v) :: r, d :: ds => k = Sum.inr d.1 ∧ Dp K H v (codeD d.2.2) ∧ CodesR K H r ds
  | _, _ => False
/-- a vault stands at p -/
structure VaultAt (K : PySem.W.Frag) (H : Hp) (p : Addr) (v : Vlt) : Prop where
  ob : ∃ (dx a d c : Addr) (b : Bool) (kvs : List (Key × V)), H p = some (.ins (He.ga K "Vault") dx (vflds a d c b)) ∧ Dp K H (.ref a) (.tuple (v.cells.map cellD)) ∧ Dp K H (.ref d) (.tuple (v.deeds.map deedD)) ∧ H c = some (.dK kvs) ∧ CodesR K H kvs v.deeds
/-- the bounds of a vault -/
structure VOk (v : Vlt) : Prop where
  c1 : v.cells.length ≤ 6
  d1 : v.deeds.length ≤ 8
  ch : ∀ d ∈ v.deeds, 1 ≤ d.2.1 ∧ d.2.1 ≤ 9
  nd : (v.deeds.map (·.1)).Nodup
theorem codes_same {K : PySem.W.Frag} {H H' : Hp} (e : Same H H') : ∀ {kvs : List (Key × V)} {ds : List (Str × Int × List Row)}, CodesR K H kvs ds → CodesR K H' kvs ds
  | [], [], _ => trivial
  | (_, _) :: _, _ :: _, h => ⟨h.1, dp_same e h.2.1, codes_same e h.2.2⟩
  | [], _ :: _, h => h.elim
  | _ :: _, [], h => h.elim
theorem VaultAt.same {K : PySem.W.Frag} {H H' : Hp} {p : Addr} {v : Vlt} (e : Same H H') (h : VaultAt K H p v) : VaultAt K H' p v := by
  obtain ⟨dx, a, d, c, b, kvs, h1, h2, h3, h4, h5⟩ := h.ob
  exact ⟨dx, a, d, c, b, kvs, e _ _ h1, dp_same e h2, dp_same e h3, e _ _ h4, codes_same e h5⟩
/-! ### data taken apart -/
section
variable {K : PySem.W.Frag} {H : Hp}
theorem dp_tup {v : V} {ds : List PyData} (h : Dp K H v (.tuple ds)) : ∃ (a : Addr) (xs : List V), v = .ref a ∧ SqT K H a xs ∧ DpAll K H xs ds := by
  cases h with
  | tup h r => exact ⟨_, _, rfl, h, r⟩
theorem dp_lst {v : V} {ds : List PyData} (h : Dp K H v (.list ds)) : ∃ (a : Addr) (xs : List V), v = .ref a ∧ SqL K H a xs ∧ DpAll K H xs ds := by
  cases h with
  | lst h r => exact ⟨_, _, rfl, h, r⟩
theorem dp_int {v : V} {i : Int} (h : Dp K H v (.int i)) : v = .int i := by
  cases h
  rfl
theorem dp_str {v : V} {i : Str} (h : Dp K H v (.str i)) : v = .str i := by
  cases h
  rfl
theorem dps_len : ∀ {vs : List V} {ds : List PyData}, DpAll K H vs ds → vs.length = ds.length
  | _, _, .nil => rfl
  | _, _, .cons _ r => congrArg (· + 1) (dps_len r)
theorem dps_get : ∀ {vs : List V} {ds : List PyData} {i : Nat} {v : V}, DpAll K H vs ds → vs[i]? = some v → ∃ d, ds[i]? = some d ∧ Dp K H v d
  | _, _, i, v, .nil, h => by simp at h
  | _, _, 0, v, .cons h r, e => by
    cases (Option.some.inj e)
    exact ⟨_, rfl, h⟩
  | _, _, i + 1, v, .cons h r, e => dps_get (i := i) r e
theorem dps_at : ∀ {vs : List V} {ds : List PyData} {i : Nat} {d : PyData}, DpAll K H vs ds → ds[i]? = some d → ∃ v, vs[i]? = some v ∧ Dp K H v d
  | _, _, i, v, .nil, h => by simp at h
  | _, _, 0, v, .cons h r, e => by
    cases (Option.some.inj e)
    exact ⟨_, rfl, h⟩
  | _, _, i + 1, v, .cons h r, e => dps_at (i := i) r e
theorem dps_app : ∀ {vs ws : List V} {ds es : List PyData}, DpAll K H vs ds → DpAll K H ws es → DpAll K H (vs ++ ws) (ds ++ es)
  | _, _, _, _, .nil, r => r
  | _, _, _, _, .cons h t, r => .cons h (dps_app t r)
theorem dps_set : ∀ {vs : List V} {ds : List PyData} {i : Nat} {v : V} {d : PyData}, DpAll K H vs ds → Dp K H v d → DpAll K H (vs.set i v) (ds.set i d)
  | _, _, _, _, _, .nil, _ => .nil
  | _, _, 0, _, _, .cons _ r, z => .cons z r
  | _, _, i + 1, _, _, .cons h r, z => .cons h (dps_set (i := i) r z)
theorem dp2 {v : V} {d e : PyData} (h : Dp K H v (.tuple [d, e])) : ∃ (a : Addr) (x y : V), v = .ref a ∧ SqT K H a [x, y] ∧ Dp K H x d ∧ Dp K H y e := by
  obtain ⟨a, xs, rfl, h, r⟩ := dp_tup h
  cases r with | cons h1 r => cases r with | cons h2 r => cases r with | nil => exact ⟨a, _, _, rfl, h, h1, h2⟩
theorem dp3 {v : V} {d e f : PyData} (h : Dp K H v (.tuple [d, e, f])) : ∃ (a : Addr) (x y z : V), v = .ref a ∧ SqT K H a [x, y, z] ∧ Dp K H x d ∧ Dp K H y e ∧ Dp K H z f := by
  obtain ⟨a, xs, rfl, h, r⟩ := dp_tup h
  cases r with | cons h1 r => cases r with | cons h2 r => cases r with | cons h3 r => cases r with | nil => exact ⟨a, _, _, _, rfl, h, h1, h2, h3⟩
theorem dps_ints : ∀ {vs : List V} {is : List Int}, DpAll K H vs (is.map PyData.int) → vs = is.map V.int
  | _, [], .nil => rfl
  | _, i :: is, .cons h r => by
    rw [dp_int h, dps_ints r]
    rfl
theorem ints_dps : ∀ {is : List Int}, DpAll K H (is.map V.int) (is.map PyData.int)
  | [] => .nil
  | i :: is => .cons (.int i) ints_dps
end
/-! ### what a list that grows leaves as it was -/
/-- all but what stands at D is as it was -/
def But (D : Addr) (H H' : Hp) : Prop := ∀ b o, b ≠ D → H b = some o → H' b = some o
theorem But.upd {D : Addr} {H : Hp} {o : HO} : But D H (upd H D o) := fun b u hb e => by
  rw [upd_ne hb]
  exact e
theorem same_but {D : Addr} {H H' : Hp} (s : Same H H') : But D H H' := fun b o _ e => s b o e
theorem But.trans {D : Addr} {H H1 H2 : Hp} (s : But D H H1) (t : But D H1 H2) : But D H H2 := fun b o hb e => t b o hb (s b o hb e)
/-- no list within -/
inductive NoL : PyData → Prop where
  | non : NoL .none
  | bool (b : Bool) : NoL (.bool b)
  | int (i : Int) : NoL (.int i)
  | str (x : Str) : NoL (.str x)
  | tup {ds : List PyData} (h : ∀ d ∈ ds, NoL d) : NoL (.tuple ds)
/-- what stands at D may change -/
def Ch (H : Hp) (D : Addr) : Prop := (∀ xs, H D ≠ some (.tup xs)) ∧ ∀ o u, H D ≠ some (.frz o u)
theorem Ch.lst {H : Hp} {D : Addr} {l : List V} (h : H D = some (.lst l)) : Ch H D := ⟨fun _ e => (by rw [h] at e; cases e), fun _ _ e => (by rw [h] at e; cases e)⟩
theorem Ch.dK {H : Hp} {D : Addr} {l : List (Key × V)} (h : H D = some (.dK l)) : Ch H D := ⟨fun _ e => (by rw [h] at e; cases e), fun _ _ e => (by rw [h] at e; cases e)⟩
theorem Ch.ins {H : Hp} {D C dx : Addr} {l : List (Str × V)} (h : H D = some (.ins C dx l)) : Ch H D := ⟨fun _ e => (by rw [h] at e; cases e), fun _ _ e => (by rw [h] at e; cases e)⟩
theorem Ch.new {H : Hp} {D : Addr} (h : H D = none) : Ch H D := ⟨fun _ e => (by rw [h] at e; cases e), fun _ _ e => (by rw [h] at e; cases e)⟩
section
variable {K : PySem.W.Frag} {H H' : Hp} {D : Addr}
theorem sqT_but (hD : Ch H D) (s : But D H H') {a : Addr} {xs : List V} (h : SqT K H a xs) : SqT K H' a xs := by
  rcases h with (h | ⟨o, h⟩) | h
  · exact .inl (.inl (s _ _ (fun e => hD.1 _ (e ▸ h)) h))
  · exact .inl (.inr ⟨o, s _ _ (fun e => hD.2 _ _ (e ▸ h)) h⟩)
  · exact .inr h
mutual
theorem dp_but (hD : Ch H D) (s : But D H H') : ∀ {v : V} {d : PyData}, Dp K H v d → NoL d → Dp K H' v d
  | _, _, .non, _ => .non
  | _, _, .bl b, _ => .bl b
  | _, _, .int i, _ => .int i
  | _, _, .str x, _ => .str x
  | _, _, .lst _ _, n => nomatch n
  | _, _, .tup h r, n => .tup (sqT_but hD s h) (dps_but hD s r (by cases n with | tup h => exact h))
theorem dps_but (hD : Ch H D) (s : But D H H') : ∀ {vs : List V} {ds : List PyData}, DpAll K H vs ds → (∀ d ∈ ds, NoL d) → DpAll K H' vs ds
  | _, _, .nil, _ => .nil
  | _, _, .cons h r, n => .cons (dp_but hD s h (n _ List.mem_cons_self)) (dps_but hD s r fun d hd => n d (List.mem_cons_of_mem _ hd))
end
end
/-! ### comprehensions and loops that leave all that was as it was -/
section
variable {J : It} {n : Nat} {G : Hp → Prop} {Y : Nat → Hp → V → Hp → Prop}
/-- a list comprehension: its i-th item is R i -/
theorem lc_out (w : Walk J n G Y) {g : TG} {te : TE} {vs : List Nat} {σ : L2.St} {H1 : Hp} {D : Addr} {Qd : Hp → Prop} (hD : H1 D = none) (hn : n ≤ 100000) (R : Nat → V → Hp → Prop) (hR : ∀ i y H H', Ch H D → But D H H' → R i y H → R i y H')
    (hG : ∀ H, Same H1 H → G H)
    (hs : ∀ (i : Nat) (x : V) (H H' : Hp) (N : VK) (F : Hp → Prop), i < n → Same H1 H → Y i H x H' → (∀ y H4, Same H H4 → R i y H4 → N y H4) → g x (wipe σ vs) H' fun σ2 H2 => wipe σ2 vs = wipe σ vs ∧ if true = true then te σ2 H2 N else F H2)
    (hd : ∀ H ys, Same H1 H → H D = some (.lst ys) → ys.length = n → (∀ i y, ys[i]? = some y → R i y H) → Qd H) :
    ∃ W : Nat → Nat → Hp → Prop, (∃ m, W 0 m (upd H1 D (.lst []))) ∧ ∀ i m H, W i m H →
      (J.stop i H ∧ Qd H) ∨ (J.go i H ∧ ∃ Nx : Hp → Prop, (∀ H', Nx H' → ∃ m', m' < m ∧ W (i + 1) m' H') ∧ ∀ x H', J.yld i H x H' → g x (wipe σ vs) H' fun σ2 H2 => wipe σ2 vs = wipe σ vs ∧ tYes σ2 H2 fun b H3 =>
        if b = true then te σ2 H3 fun y H4 => ∃ acc, H4 D = some (.lst acc) ∧ acc.length < sizeLine ∧ Nx (upd H4 D (.lst (acc ++ [y]))) else Nx H3) := by
  let Pv : Nat → Hp → Prop := fun i H => ∃ ys, Same H1 H ∧ H D = some (.lst ys) ∧ ys.length = i ∧ ∀ j y, ys[j]? = some y → R j y H
  refine lc_it w Pv ⟨[], same_new hD, upd_same, rfl, fun j y e => by simp at e⟩ (fun i H _ ⟨_, s, _⟩ => hG H s) (fun i x H H' hi ⟨ys, s, eD, el, hr⟩ y => ?_) (fun H ⟨ys, s, eD, el, hr⟩ => hd H ys s eD el hr)
  refine hs i x H H' (fun y H4 => ∃ acc, H4 D = some (.lst acc) ∧ acc.length < sizeLine ∧ Pv (i + 1) (upd H4 D (.lst (acc ++ [y])))) (fun H3 => Pv (i + 1) H3) hi s y fun z H4 s4 rz => ⟨ys, s4 _ _ eD, by rw [sizeLine_eq]; omega, ys ++ [z], fun b o e => ?_, upd_same, by simp [el], fun j u e => ?_⟩
  · rw [upd_ne (ne_of_none e hD)]
    exact s4 b o (s b o e)
  · have bt : But D H (upd H4 D (.lst (ys ++ [z]))) := (same_but s4 (D := D)).trans But.upd
    by_cases hj : j < ys.length
    · rw [List.getElem?_append_left hj] at e
      exact hR j u H _ (.lst eD) bt (hr j u e)
    · rw [List.getElem?_append_right (by omega)] at e
      have e0 : j - ys.length = 0 := by
        cases q : j - ys.length with
        | zero => rfl
        | succ m => rw [q] at e; simp at e
      rw [e0] at e
      cases (Option.some.inj e)
      have ej : j = i := by omega
      subst ej
      exact hR _ _ H4 _ (.lst (s4 _ _ eD)) But.upd rz
end

end M

set_option Elab.async false
set_option linter.all false
set_option maxRecDepth 100000
set_option maxHeartbeats 2000000
namespace M
open PySem PySem.Spec PyProof.Rows L2

theorem map_of {α : Type} {cs : List α} {f : α → V} {ys : List V} (hl : ys.length = cs.length) (h : ∀ (i : Nat) (y : V), ys[i]? = some y → ∃ c, cs[i]? = some c ∧ y = f c) : ys = cs.map f := by
  refine List.ext_getElem? fun i => ?_
  rw [List.getElem?_map]
  cases e : ys[i]? with
  | some y =>
    obtain ⟨c, hc, rfl⟩ := h i y e
    rw [hc]
    rfl
  | none =>
    have q : cs[i]? = none := by
      rw [List.getElem?_eq_none_iff] at e ⊢
      omega
    rw [q]
    rfl
theorem get_mapA {α β : Type} {l : List α} {f : α → β} {i : Nat} {x : β} (h : (l.map f)[i]? = some x) : ∃ z, l[i]? = some z ∧ x = f z := by
  rw [List.getElem?_map] at h
  cases e : l[i]? with
  | none => rw [e] at h; cases h
  | some z => rw [e] at h; exact ⟨z, rfl, (Option.some.inj h).symm⟩
section
variable {P : Program} {w : World} {K : PySem.W.Frag} {mg : Str → Option Value} {base : Heap}
/-! ### pastless.vaults: what a vault tells -/
def spSizes (K : PySem.W.Frag) (f : Int × Int → Int) : Sp := fun vs H Q _ => ∃ (p : Addr) (v : Vlt), vs = [.ref p] ∧ VaultAt K H p v ∧ v.cells.length ≤ 6 ∧ ∀ a H', Same H H' → H' a = some (.tup ((v.cells.map f).map V.int)) → Q (.ref a) H'
end

end M

set_option Elab.async false
set_option linter.all false
set_option maxRecDepth 100000
set_option maxHeartbeats 2000000
namespace M
open PySem PySem.Spec PyProof.Rows L2

/-! ### any walk: Pv by the turn and the heap -/
section
variable {J : It} {n : Nat} {G : Hp → Prop} {Y : Nat → Hp → V → Hp → Prop}
theorem it_any (w : Walk J n G Y) {B : (Hp → Prop) → V → Hp → Prop} {H1 : Hp} {Qd : Hp → Prop} (Pv : Nat → Hp → Prop) (h0 : Pv 0 H1) (hG : ∀ i H, i ≤ n → Pv i H → G H) (hs : ∀ i x H H', i < n → Pv i H → Y i H x H' → B (Pv (i + 1)) x H')
    (hd : ∀ H, Pv n H → Qd H) : ∃ W : Nat → Nat → Hp → Prop, (∃ m, W 0 m H1) ∧ ∀ i m H, W i m H → (J.stop i H ∧ Qd H) ∨ (J.go i H ∧ ∃ Nx : Hp → Prop, (∀ H', Nx H' → ∃ m', m' < m ∧ W (i + 1) m' H') ∧ ∀ x H', J.yld i H x H' → B Nx x H') := by
  refine ⟨fun i m H => m + i = n ∧ Pv i H, ⟨n, rfl, h0⟩, fun i m H ⟨hm, hp⟩ => ?_⟩
  have hg := hG i H (by omega) hp
  rcases Nat.lt_or_ge i n with hi | hi
  · exact .inr ⟨w.goes i H hi hg, Pv (i + 1), fun H' hp' => ⟨m - 1, by omega, by omega, hp'⟩, fun x H' y => hs i x H H' hi hp (w.yields i H x H' hi hg y)⟩
  · obtain rfl : i = n := by omega
    exact .inl ⟨w.stops H hg, hd H hp⟩
end
/-- the tuples of calls -/
def TupsAt (H : Hp) : List V → List (Str × Int) → Prop
  | [], [] => True
  | y :: ys, c :: cs => (∃ t, y = .ref t ∧ H t = some (.tup [.str c.1, .int c.2])) ∧ TupsAt H ys cs
  | _, _ => False
theorem tups_but {D : Addr} {H H' : Hp} (hD : Ch H D) (s : But D H H') : ∀ {ys : List V} {cs : List (Str × Int)}, TupsAt H ys cs → TupsAt H' ys cs
  | [], [], _ => trivial
  | _ :: _, _ :: _, ⟨⟨t, e, h⟩, r⟩ => ⟨⟨t, e, s t _ (fun z => hD.1 _ (z ▸ h)) h⟩, tups_but hD s r⟩
  | [], _ :: _, h => h.elim
  | _ :: _, [], h => h.elim
theorem tups_same {H H' : Hp} (s : Same H H') : ∀ {ys : List V} {cs : List (Str × Int)}, TupsAt H ys cs → TupsAt H' ys cs
  | [], [], _ => trivial
  | _ :: _, _ :: _, ⟨⟨t, e, h⟩, r⟩ => ⟨⟨t, e, s t _ h⟩, tups_same s r⟩
  | [], _ :: _, h => h.elim
  | _ :: _, [], h => h.elim
theorem tups_len {H : Hp} : ∀ {ys : List V} {cs : List (Str × Int)}, TupsAt H ys cs → ys.length = cs.length
  | [], [], _ => rfl
  | _ :: _, _ :: _, ⟨_, r⟩ => congrArg (· + 1) (tups_len r)
  | [], _ :: _, h => h.elim
  | _ :: _, [], h => h.elim
theorem tups_snoc {H : Hp} {t : Addr} {c : Str × Int} (ht : H t = some (.tup [.str c.1, .int c.2])) : ∀ {ys : List V} {cs : List (Str × Int)}, TupsAt H ys cs → TupsAt H (ys ++ [.ref t]) (cs ++ [c])
  | [], [], _ => ⟨⟨t, rfl, ht⟩, trivial⟩
  | _ :: _, _ :: _, ⟨h, r⟩ => ⟨h, tups_snoc ht r⟩
  | [], _ :: _, h => h.elim
  | _ :: _, [], h => h.elim
theorem tups_get {H : Hp} : ∀ {ys : List V} {cs : List (Str × Int)} {i : Nat} {y : V}, TupsAt H ys cs → ys[i]? = some y → ∃ c t, cs[i]? = some c ∧ y = .ref t ∧ H t = some (.tup [.str c.1, .int c.2])
  | [], [], i, y, _, e => by simp at e
  | _ :: _, c :: _, 0, y, ⟨⟨t, e, h⟩, r⟩, z => by
    cases (Option.some.inj z)
    exact ⟨c, t, rfl, e, h⟩
  | _ :: _, _ :: _, i + 1, y, ⟨h, r⟩, z => tups_get (i := i) r z
  | [], _ :: _, _, _, h, _ => h.elim
  | _ :: _, [], _, _, h, _ => h.elim
theorem take_more {α : Type} {l : List α} {i : Nat} {x : α} (h : l[i]? = some x) : l.take (i + 1) = l.take i ++ [x] := by
  rw [List.take_add_one, h]
  rfl
theorem range_more (j : Nat) : List.range (j + 1) = List.range j ++ [j] := List.range_succ
/-- all but the dict of a name -/
theorem codes_get {K : PySem.W.Frag} {H : Hp} : ∀ {kvs : List (Key × V)} {ds : List (Str × Int × List Row)} {d : Str × Int × List Row}, CodesR K H kvs ds → (ds.map (·.1)).Nodup → d ∈ ds → ∃ v, valV kvs (Sum.inr d.1 : Key) = some v ∧ Dp K H v (codeD d.2.2)
  | [], [], d, _, _, h => by cases h
  | (k, v) :: r, e :: ds, d, h, n, hd => by
    obtain ⟨rfl, hv, hr⟩ := h
    rw [List.map_cons, List.nodup_cons] at n
    by_cases q : e.1 = d.1
    · have : d = e := by
        rcases List.mem_cons.mp hd with z | z
        · exact z
        · exact absurd (q ▸ List.mem_map.mpr ⟨d, z, rfl⟩) n.1
      subst this
      refine ⟨v, ?_, hv⟩
      unfold valV
      rw [List.find?_cons_of_pos (by simp)]
      rfl
    · have hd' : d ∈ ds := by
        rcases List.mem_cons.mp hd with z | z
        · exact absurd (by rw [z]) q
        · exact z
      obtain ⟨u, hu, hw⟩ := codes_get hr n.2 hd'
      refine ⟨u, ?_, hw⟩
      unfold valV at hu ⊢
      rw [List.find?_cons_of_neg (by simp [q])]
      exact hu
  | [], _ :: _, _, h, _, _ => h.elim
  | _ :: _, [], _, h, _, _ => h.elim
/-! ### no lists within -/
theorem Exp.noL : ∀ e : Exp, NoL e.d
  | .num n => .int n
  | .reg r => .str r
  | .op s a b => .tup fun d h => by
    rcases List.mem_cons.mp h with rfl | h
    · exact .str s
    rcases List.mem_cons.mp h with rfl | h
    · exact a.noL
    rcases List.mem_cons.mp h with rfl | h
    · exact b.noL
    cases h
mutual
theorem Row.noL : ∀ r : Row, NoL r.d
  | .read r c => .tup (by intro d h; simp at h; rcases h with rfl | rfl | rfl <;> constructor)
  | .set c e => .tup (by intro d h; simp at h; rcases h with rfl | rfl | rfl <;> first | exact e.noL | constructor)
  | .swap r c e f => .tup (by intro d h; simp at h; rcases h with rfl | rfl | rfl | rfl | rfl <;> first | exact e.noL | exact f.noL | constructor)
  | .keep r e => .tup (by intro d h; simp at h; rcases h with rfl | rfl | rfl <;> first | exact e.noL | constructor)
  | .coin r => .tup (by intro d h; simp at h; rcases h with rfl | rfl <;> constructor)
  | .iff e a b => .tup (by intro d h; simp at h; rcases h with rfl | rfl | rfl | rfl <;> first | exact e.noL | exact .tup (rows_noL a) | exact .tup (rows_noL b) | constructor)
  | .times e a => .tup (by intro d h; simp at h; rcases h with rfl | rfl | rfl <;> first | exact e.noL | exact .tup (rows_noL a) | constructor)
  | .ans e => .tup (by intro d h; simp at h; rcases h with rfl | rfl <;> first | exact e.noL | constructor)
theorem rows_noL : ∀ rs : List Row, ∀ d ∈ rowsD rs, NoL d
  | [], d, h => by cases h
  | r :: rs, d, h => by
    rcases List.mem_cons.mp h with rfl | h
    · exact r.noL
    · exact rows_noL rs d h
end
theorem FR.noL : ∀ r : FR, NoL r.d
  | .row r => r.noL
  | .unless e p => .tup (by intro d h; simp at h; rcases h with rfl | rfl | rfl <;> first | exact e.noL | constructor)
  | .on p => .tup (by intro d h; simp at h; rcases h with rfl | rfl <;> constructor)
  | .rounds e => .tup (by intro d h; simp at h; rcases h with rfl | rfl <;> first | exact e.noL | constructor)
  | .round p => .tup (by intro d h; simp at h; rcases h with rfl | rfl <;> constructor)
  | .hole => .tup (by intro d h; cases h)
theorem code_noL (rs : List Row) : NoL (codeD rs) := .tup fun d h => by
  obtain ⟨r, _, rfl⟩ := List.mem_map.mp h
  exact r.noL
section
variable {P : Program} {w : World} {K : PySem.W.Frag} {mg : Str → Option Value} {base : Heap}
def spCalls (K : PySem.W.Frag) : Sp := fun vs H Q _ => ∃ (p : Addr) (v : Vlt), vs = [.ref p] ∧ VaultAt K H p v ∧ VOk v ∧ ∀ a ys H', Same H H' → H' a = some (.lst ys) → TupsAt H' ys v.calls → Q (.ref a) H'
end

end M

set_option Elab.async false
set_option linter.all false
set_option maxRecDepth 100000
set_option maxHeartbeats 2000000
namespace M
open PySem PySem.Spec PyProof.Rows L2

/-- the def x of the module, its parameters told -/
structure Cf (P : Program) (w : World) (K : PySem.W.Frag) (mg : Str → Option Value) (base : Heap) (k : Nat) (x : Str) (ps : List Str) (sp : Sp) : Prop where
  ex : ∃ (fd : FuncData) (oc : Value) (od : Option Addr) (osl : Array (Option Value)), K.lookup (He.ga K x) = some ⟨oc, od, .func fd, osl⟩ ∧ FnOk P w K mg base CX0 k (He.ga K x) fd ps sp ∧ PySem.W.keepIn K (.ref (He.ga K x)) = true ∧ Binds K fd ps []
  g : mg x = some (.ref (He.ga K x))
theorem cf_of {P : Program} {w : World} {K : PySem.W.Frag} {mg : Str → Option Value} {base : Heap} {x : Str} {st : Stmt} {N ps : List Str} {k : Nat} {sp : Sp} (F : ∃ fd, FunD K x x (defArgs st) (defBody st) (defScope st) [] [] (He.fAd K (x, none)) fd) (g : mg x = some (.ref (He.ga K x))) (S : FnScope N ps (defScope st)) (hb : BindsH x x st ps)
    (len : ∀ vs H Q E, sp vs H Q E → vs.length = ps.length) (hbody : BodyH P w K mg base x st N k (He.fAd K (x, none)) sp) : Cf P w K mg base (k + 1) x ps sp := by
  obtain ⟨fd, F⟩ := F
  obtain ⟨oc, od, dV, kV, doc, pm, an, cdv, ct, osl, e, lk, _⟩ := F.ex
  exact ⟨⟨fd, oc, od, osl, lk, fn_d F S len hbody, F.kp, F.bindsN hb⟩, g⟩
theorem Cf.mono {P : Program} {w : World} {K : PySem.W.Frag} {mg : Str → Option Value} {base : Heap} {x : Str} {ps : List Str} {j k : Nat} {sp : Sp} (c : Cf P w K mg base j x ps sp) (h : j ≤ k) : Cf P w K mg base k x ps sp := by
  obtain ⟨fd, oc, od, osl, lk, F, r⟩ := c.ex
  exact ⟨⟨fd, oc, od, osl, lk, F.mono h, r⟩, c.g⟩
theorem ne_ho {H : Hp} {a b : Addr} {o p : HO} (ha : H a = some o) (hb : H b = some p) (n : o ≠ p) : a ≠ b := fun e => n (by rw [e, hb] at ha; exact (Option.some.inj ha).symm)
theorem at0 {a : V} {xs : List V} : atI (a :: xs) 0 = some a := atI_nat (xs := a :: xs) (j := 0) rfl
theorem at1 {a b : V} {xs : List V} : atI (a :: b :: xs) 1 = some b := atI_nat (xs := a :: b :: xs) (j := 1) rfl
theorem at2 {a b c : V} {xs : List V} : atI (a :: b :: c :: xs) 2 = some c := atI_nat (xs := a :: b :: c :: xs) (j := 2) rfl
theorem at3 {a b c d : V} {xs : List V} : atI (a :: b :: c :: d :: xs) 3 = some d := atI_nat (xs := a :: b :: c :: d :: xs) (j := 3) rfl
def NameOk (s : Str) : Prop := 1 ≤ s.length ∧ s.length ≤ 8 ∧ ∀ c ∈ s.cps.toList, 97 ≤ c ∧ c ≤ 122
theorem sign_le {a c : Nat} (h : a ≤ c) : (!decide (([c] : List Nat) < [a])) = true := by
  have : ¬ (([c] : List Nat) < [a]) := by
    rw [List.cons_lt_cons_iff]
    rintro (h1 | ⟨_, h2⟩)
    · omega
    · exact absurd h2 (by simp)
  rw [decide_eq_false this]
  rfl
theorem if_true_of {c : Bool} {A B : Prop} (hc : c = true) (h : A) : if c = true then A else B := by
  rw [if_pos hc]
  exact h
theorem if_not_of {c : Bool} {A B : Prop} (hc : c = true) (h : B) : if (!c) = true then A else B := by
  rw [hc]
  exact iteF h
theorem getD_mem {l : List Int} {i : Nat} {d : Int} (h : i < l.length) : l.getD i d ∈ l := by
  rw [List.getD_eq_getElem?_getD, List.getElem?_eq_getElem h]
  exact List.getElem_mem h
theorem atK {l : List Int} {k : Int} {n : Nat} (h0 : 0 ≤ k) (hk : k < n) (hn : l.length = n) : atI (l.map V.int) k = some (.int (l.getD k.toNat 0)) := by
  have e : ((k.toNat : Nat) : Int) = k := Int.toNat_of_nonneg h0
  have hl : k.toNat < l.length := by omega
  have := atI_nat (xs := l.map V.int) (j := k.toNat) (v := .int (l.getD k.toNat 0)) (by
    rw [List.getElem?_map, List.getD_eq_getElem?_getD, List.getElem?_eq_getElem hl]
    rfl)
  rw [e] at this
  exact this
theorem none_of {H H' : Hp} {x : Addr} (s : Same H H') (h : H' x = none) : H x = none := by
  cases e : H x with
  | none => rfl
  | some o => rw [s _ _ e] at h; cases h
theorem let26 {i : Int} (h : 0 ≤ i ∧ i < 26) : atI ("abcdefghijklmnopqrstuvwxyz" : Str).cps.toList i = some (97 + i.toNat) := by
  obtain ⟨k, rfl⟩ : ∃ k : _root_.Fin 26, i = ((k.val : Nat) : Int) := ⟨⟨i.toNat, by omega⟩, by show i = ((i.toNat : Nat) : Int); omega⟩
  revert k
  decide +kernel
theorem joinL_nil : ∀ ps : List (List Nat), TL.joinL [] ps = ps.flatten
  | [] => rfl
  | [p] => by show p = p ++ []; rw [List.append_nil]
  | p :: q :: r => by
    show p ++ ([] ++ TL.joinL [] (q :: r)) = p ++ (q :: r).flatten
    rw [List.nil_append, joinL_nil (q :: r)]
theorem join_letters {ss : List Str} (h : ∀ s ∈ ss, ∃ c, s = ⟨#[c]⟩ ∧ 97 ≤ c ∧ c ≤ 122) : (Txt.join ("" : Str) ss).cps.toList.length = ss.length ∧ ∀ c ∈ (Txt.join ("" : Str) ss).cps.toList, 97 ≤ c ∧ c ≤ 122 := by
  have e : (Txt.join ("" : Str) ss).cps.toList = (ss.map TL.tl).flatten := by
    have := TL.tl_join ("" : Str) ss
    rw [← TL.join_eq] at this
    rw [← joinL_nil]
    exact this
  rw [e]
  clear e
  induction ss with
  | nil => exact ⟨rfl, fun c hc => by cases hc⟩
  | cons s r ih =>
    obtain ⟨c, rfl, h1, h2⟩ := h s List.mem_cons_self
    obtain ⟨i1, i2⟩ := ih fun x hx => h x (List.mem_cons_of_mem _ hx)
    have et : TL.tl (⟨#[c]⟩ : Str) = [c] := rfl
    rw [List.map_cons, List.flatten_cons, et]
    refine ⟨by rw [List.length_append, i1]; simp; omega, fun d hd => ?_⟩
    rcases List.mem_append.mp hd with hd | hd
    · rw [List.mem_singleton.mp hd]
      exact ⟨h1, h2⟩
    · exact i2 d hd
theorem str_len (s : Str) : s.length = s.cps.toList.length := by rw [Array.length_toList]; rfl
theorem boot_all : bootBuiltins "all" = some (.builtin "all") := by decide +kernel
section
variable {P : Program} {w : World} {K : PySem.W.Frag} {mg : Str → Option Value} {base : Heap}
def spName : Sp := fun vs H Q _ => ∃ (s : Str), vs = [.str s] ∧ NameOk s ∧ Q (.bl true) H
theorem ca_is_name (T : Txt w K mg) : Ca P w K mg base 1 "is_name" (spName) := by
  refine ca_of (N := ["value", "letter"]) (ps := ["value"]) T.f_is_name T.g_is_name ⟨rfl, rfl, rfl, by decide +kernel, rfl, by decide +kernel, by decide +kernel⟩ (fun _ _ _ _ _ _ us hl => match us, hl with | [_], _ => rfl)
    (fun vs H Q E h => by obtain ⟨s, rfl, ok, q⟩ := h; rfl) (fun cdv A outer s H vs Q E hr h => ?_)
  have nd : (["value", "letter"] : List Str).Nodup := by decide +kernel
  obtain ⟨s, rfl, ok, q⟩ := h
  refine ⟨_, (pss_cons (ps_if (PW.pt (pw_or (pt_not (pt_val (pe_is .str T.b_isinstance (pv 0) T.b_str boot_str))) (pw_or1 (pt_not (pt_chain op_le op_le pe_int (pe_callB call_len_str (by rfl) T.b_len PySem.boot_len (pa_cons (pv 0) pa_nil)) (pe_gi T.i_LONGEST_NAME)))))) (pss_one (ps_ret pe_bl)) pss_nil)
      (pss_cons (ps_for PassesOwn.never rfl (pi_str (pv 0)) (pg_name (i := 1) nd rfl (.inl rfl)) (pss_one (ps_if (pt_not (pt_chain op_le_str op_le_str pe_str (pv 1) pe_str)) (pss_one (ps_ret pe_bl)) pss_nil)))
      (pss_one (ps_ret pe_bl)))), ?_⟩
  refine ⟨_, rfl, _, _, rfl, .str s, _, rfl, iteF ?_⟩
  have l8 := ok.2.1
  refine ⟨_, rfl, _, rfl, by rw [sizeLine_eq]; omega, _, _, rfl, rfl, _, rfl, ?_⟩
  rw [decide_eq_true (show (1 : Int) ≤ (s.length : Int) from by have := ok.1; omega)]
  refine iteT ⟨_, _, rfl, rfl, _, rfl, ?_⟩
  rw [decide_eq_true (show (s.length : Int) ≤ 8 from by omega)]
  refine iteF ⟨_, rfl, _, rfl, for_it (n := s.cps.size) walk_str (fun i σ' H' => ∃ x, σ' = [some (.str s), x] ∧ H' = H) ⟨none, rfl, rfl⟩ (fun _ _ _ _ _ => trivial) ?_ ?_⟩
  · rintro i x σ' H' H2 hi ⟨_, rfl, rfl⟩ ⟨rfl, c, hc, rfl⟩
    have hm : c ∈ s.cps.toList := by
      rw [← Array.getElem?_toList] at hc
      exact List.mem_of_getElem? hc
    have b := ok.2.2 c hm
    refine ⟨_, rfl, _, _, rfl, rfl, _, rfl, ?_⟩
    refine (if_true_of (sign_le b.1) ?_)
    refine ⟨_, _, rfl, rfl, _, rfl, ?_⟩
    refine if_not_of (sign_le b.2) ⟨_, rfl, rfl⟩
  · rintro σ' H' ⟨_, rfl, rfl⟩
    exact q
end

end M

set_option Elab.async false
set_option linter.all false
set_option maxRecDepth 100000
set_option maxHeartbeats 2000000
namespace M
open PySem PySem.Spec PyProof.Rows L2

/-! ### what the law draws -/
def PoolAt (H : Hp) (a : Addr) : Prop := ∃ g s n : Int, H a = some (.lst [.int g, .int s, .int n]) ∧ 0 ≤ g ∧ (0 ≤ s ∧ s < 1099511627776) ∧ 0 ≤ n
section
variable {P : Program} {w : World} {K : PySem.W.Frag} {mg : Str → Option Value} {base : Heap}
def spPool (K : PySem.W.Frag) : Sp := fun vs H Q _ => ∃ (a : Addr) (ns : List Int) (k : Int), vs = [.ref a, .int k] ∧ SqL K H a (ns.map .int) ∧ ns.length ≤ 63 ∧ (0 ≤ k ∧ k ≤ 63) ∧ ∀ (p : Addr) (H' : Hp), Same H H' → H p = none → PoolAt H' p → Q (.ref p) H'
theorem ca_l_pool (T : Txt w K mg) : Ca P w K mg base 1 "_law_pool" (spPool K) := by
  refine ca_of (N := ["_law_script", "_law_k", "_law_cell", "_law_seed"]) (ps := ["_law_script", "_law_k"]) T.f_l_pool T.g_law_pool ⟨rfl, rfl, rfl, by decide +kernel, rfl, by decide +kernel, by decide +kernel⟩ (fun _ _ _ _ _ _ us hl => match us, hl with | [_, _], _ => rfl)
    (fun vs H Q E h => by obtain ⟨a, ns, k, rfl, ha, hl, hk, q⟩ := h; rfl) (fun cdv A outer s H vs Q E hr h => ?_)
  have nd : (["_law_script", "_law_k", "_law_cell", "_law_seed"] : List Str).Nodup := by decide +kernel
  obtain ⟨a, ns, k, rfl, ha, hl, hk, q⟩ := h
  refine ⟨_, (pss_cons (ps_if (pt_cmpR op_eq (pe_callB call_len_seq (by rfl) T.b_len PySem.boot_len (pa_cons (pv 0) pa_nil)) pe_int (nomark _)) (pss_one (ps_ret (pe_lst (pa_cons pe_int (pa_cons (pe_op op_add pe_int (pe_op op_mul pe_int (pv 1))) (pa_cons pe_int pa_nil)))))) pss_nil)
      (pss_cons (ps_set (i := 2) nd rfl (.inl rfl) (pe_callB call_abs (by rfl) T.b_abs boot_abs (pa_cons (pe_ix ix_list (pv 0) (pe_op op_mod (pv 1) (pe_callB call_len_seq (by rfl) T.b_len PySem.boot_len (pa_cons (pv 0) pa_nil))) (fun _ _ => rfl)) pa_nil)))
      (pss_cons (ps_set (i := 3) nd rfl (.inl rfl) (pe_op op_add (pe_op op_add (pe_op op_mod (pe_callTy call_int1 (by rfl) T.b_int boot_int (pa_cons (pv 2) pa_nil)) pe_int) (pe_op op_mul pe_int (pv 1))) (pe_callTy call_int1 (by rfl) T.b_int boot_int (pa_cons (pe_cmpR op_lt (pe_ix ix_list (pv 0) (pe_op op_mod (pv 1) (pe_callB call_len_seq (by rfl) T.b_len PySem.boot_len (pa_cons (pv 0) pa_nil))) (fun _ _ => rfl)) pe_int (nomark _)) pa_nil))))
      (pss_cons (ps_if (PW.pt (pw_and (pt_cmpR op_lt (pv 1) (pe_callB call_len_seq (by rfl) T.b_len PySem.boot_len (pa_cons (pv 0) pa_nil)) (nomark _)) (pw_and1 (pt_cmpR op_ge (pv 2) (pe_op op_pow pe_int pe_int) (nomark _))))) (pss_one (ps_ret (pe_lst (pa_cons (pv 2) (pa_cons (pv 3) (pa_cons pe_int pa_nil)))))) pss_nil)
      (pss_one (ps_ret (pe_lst (pa_cons pe_int (pa_cons (pv 3) (pa_cons pe_int pa_nil)))))))))), ?_⟩
  refine ⟨_, rfl, _, _, rfl, .inl ha, rfl, _, rfl, ?_⟩
  by_cases c : ns.length = 0
  · rw [decide_eq_true (show V.int ((ns.map V.int).length : Nat) = V.int 0 from by rw [List.length_map, c]; rfl)]
    refine iteT ⟨_, rfl, _, _, rfl, rfl, .inl (by decide), _, _, rfl, rfl, (by show 3 ≤ sizeLine; decide), fun p np => ?_⟩
    exact q p _ (same_new np) np ⟨_, _, _, upd_same, by decide, by omega, by decide⟩
  · rw [decide_eq_false (show ¬ V.int ((ns.map V.int).length : Nat) = V.int 0 from fun z => c (by have := V.int.inj z; rw [List.length_map] at this; omega))]
    refine iteF ?_
    have hm0 := Int.emod_nonneg k (show ((ns.map V.int).length : Int) ≠ 0 by rw [List.length_map]; omega)
    have hm1 := Int.emod_lt_of_pos k (show (0 : Int) < ((ns.map V.int).length : Nat) by rw [List.length_map]; omega)
    have hat := atK (l := ns) hm0 hm1 (by rw [List.length_map])
    generalize ns.getD (k % ((ns.map V.int).length : Nat)).toNat 0 = x at hat
    have pos : (fun (_ j : Int) => 0 < j) k ((ns.map V.int).length : Nat) := by show (0 : Int) < ((ns.map V.int).length : Nat); rw [List.length_map]; omega
    refine ⟨_, rfl, _, rfl, _, rfl, _, _, rfl, .inl ha, _, _, rfl, rfl, pos, _, _, _, _, rfl, rfl, ha, hat, _, rfl, ?_⟩
    have hx : 0 ≤ (if x < 0 then -x else x) := by split <;> omega
    generalize (if x < 0 then -x else x) = z at hx
    refine ⟨_, rfl, .inl ⟨_, rfl, _, _, rfl, rfl, (by show (0 : Int) < 2147483629; decide), _, rfl, _, _, rfl, rfl, .inl (by decide), _, _, rfl, rfl, ?_⟩⟩
    refine ⟨_, rfl, _, rfl, _, rfl, _, _, rfl, .inl ha, _, _, rfl, rfl, pos, _, _, _, _, rfl, rfl, ha, hat, _, _, rfl, rfl, .inr ⟨_, rfl, _, _, rfl, rfl, ?_⟩⟩
    have s0 : 0 ≤ (if decide (x < 0) = true then (1 : Int) else 0) ∧ (if decide (x < 0) = true then (1 : Int) else 0) ≤ 1 := by split <;> omega
    have z0 := Int.emod_nonneg z (show (2147483629 : Int) ≠ 0 by decide)
    have z1 := Int.emod_lt_of_pos z (show (0 : Int) < 2147483629 by decide)
    have sb : 0 ≤ z % 2147483629 + 1009 * k + (if decide (x < 0) = true then (1 : Int) else 0) ∧ z % 2147483629 + 1009 * k + (if decide (x < 0) = true then (1 : Int) else 0) < 1099511627776 := by omega
    refine ⟨_, rfl, _, rfl, _, _, rfl, .inl ha, _, _, rfl, rfl, _, rfl, ?_⟩
    have no : ∀ p, H p = none → Q (.ref p) (upd H p (.lst [.int 0, .int (z % 2147483629 + 1009 * k + (if decide (x < 0) = true then (1 : Int) else 0)), .int 0])) := fun p np => q p _ (same_new np) np ⟨_, _, _, upd_same, by decide, sb, by decide⟩
    by_cases c1 : k < ((ns.map V.int).length : Nat)
    · rw [decide_eq_true c1]
      refine iteT ⟨_, rfl, _, _, rfl, rfl, ⟨by decide, by decide, by decide⟩, _, _, rfl, rfl, _, rfl, ?_⟩
      by_cases c2 : (10 ^ (18 : Int).toNat : Int) ≤ z
      · rw [decide_eq_true c2]
        refine iteT ⟨_, rfl, _, rfl, (by show 3 ≤ sizeLine; decide), fun p np => ?_⟩
        exact q p _ (same_new np) np ⟨_, _, _, upd_same, hx, sb, by decide⟩
      · rw [decide_eq_false c2]
        exact iteF ⟨_, rfl, (by show 3 ≤ sizeLine; decide), no⟩
    · rw [decide_eq_false c1]
      exact iteF ⟨_, rfl, (by show 3 ≤ sizeLine; decide), no⟩
def spDraw : Sp := fun vs H Q _ => ∃ (a : Addr) (m : Int), vs = [.ref a, .int m] ∧ PoolAt H a ∧ (1 ≤ m ∧ m ≤ 100000) ∧ ∀ (i : Int) (H' : Hp), But a H H' → PoolAt H' a → (0 ≤ i ∧ i < m) → Q (.int i) H'
theorem ca_l_draw (T : Txt w K mg) : Ca P w K mg base 1 "_law_draw" (spDraw) := by
  refine ca_of (N := ["_law_pool_here", "_law_many", "_law_digit", "_law_number"]) (ps := ["_law_pool_here", "_law_many"]) T.f_l_draw T.g_law_draw ⟨rfl, rfl, rfl, by decide +kernel, rfl, by decide +kernel, by decide +kernel⟩ (fun _ _ _ _ _ _ us hl => match us, hl with | [_, _], _ => rfl)
    (fun vs H Q E h => by obtain ⟨a, m, rfl, ⟨g, sd, n, hp, hg, hs, hn⟩, hm, q⟩ := h; rfl) (fun cdv A outer s H vs Q E hr h => ?_)
  have nd : (["_law_pool_here", "_law_many", "_law_digit", "_law_number"] : List Str).Nodup := by decide +kernel
  obtain ⟨a, m, rfl, ⟨g, sd, n, hp, hg, hs, hn⟩, hm, q⟩ := h
  refine ⟨_, (pss_cons (ps_if (pt_cmpR op_gt (pe_ix ix_list (pv 0) pe_int (fun _ _ => rfl)) pe_int (nomark _)) (pss_cons (ps_set (i := 2) nd rfl (.inl rfl) (pe_op op_mod (pe_callTy call_int1 (by rfl) T.b_int boot_int (pa_cons (pe_ix ix_list (pv 0) pe_int (fun _ _ => rfl)) pa_nil)) (pv 1)))
      (pss_cons (ps_asg (pe_op op_fdiv (pe_ix ix_list (pv 0) pe_int (fun _ _ => rfl)) (pv 1)) (pg_sub (pv 0) pe_int set_list))
      (pss_one (ps_ret (pv 2))))) pss_nil)
      (pss_cons (ps_asg (pe_op op_add (pe_ix ix_list (pv 0) pe_int (fun _ _ => rfl)) pe_int) (pg_sub (pv 0) pe_int set_list))
      (pss_cons (ps_set (i := 3) nd rfl (.inl rfl) (pe_op op_mod (pe_callTy call_int1 (by rfl) T.b_int boot_int (pa_cons (pe_op op_mul (pe_op op_add (pe_ix ix_list (pv 0) pe_int (fun _ _ => rfl)) pe_int) (pe_op op_add (pe_op op_mul pe_int (pe_ix ix_list (pv 0) pe_int (fun _ _ => rfl))) pe_int)) pa_nil)) pe_int))
      (pss_cons (ps_set (i := 3) nd rfl (.inl rfl) (pe_op op_mod (pe_callTy call_int1 (by rfl) T.b_int boot_int (pa_cons (pe_op op_mul (pv 3) (pe_op op_add (pe_op op_fdiv (pv 3) pe_int) pe_int)) pa_nil)) pe_int))
      (pss_cons (ps_set (i := 3) nd rfl (.inl rfl) (pe_op op_mod (pe_callTy call_int1 (by rfl) T.b_int boot_int (pa_cons (pe_op op_mul (pv 3) (pe_op op_add (pe_op op_fdiv (pv 3) pe_int) pe_int)) pa_nil)) pe_int))
      (pss_one (ps_ret (pe_op op_mod (pe_callTy call_int1 (by rfl) T.b_int boot_int (pa_cons (pe_op op_fdiv (pv 3) pe_int) pa_nil)) (pv 1))))))))), ?_⟩
  have hsq : SqL K H a [.int g, .int sd, .int n] := .of hp
  refine ⟨_, rfl, _, _, _, _, rfl, rfl, hsq, at0, _, _, rfl, rfl, _, rfl, ?_⟩
  by_cases c : (0 : Int) < g
  · rw [decide_eq_true c]
    refine iteT ?_
    refine ⟨_, rfl, _, _, _, _, rfl, rfl, hsq, at0, .inl ⟨_, rfl, _, rfl, _, _, rfl, rfl, (by show (0 : Int) < m; omega), ?_⟩⟩
    refine ⟨_, rfl, _, _, _, _, rfl, rfl, hsq, at0, _, rfl, _, _, rfl, rfl, ⟨(by show (0 : Int) < m; omega), (by show m < 1073741824; omega)⟩, ?_⟩
    refine ⟨_, rfl, a, _, _, 0, rfl, rfl, hp, rfl, ?_⟩
    refine ⟨_, rfl, q _ _ But.upd ⟨g / m, sd, n, upd_same, Int.ediv_nonneg (by omega) (by omega), hs, hn⟩ ⟨Int.emod_nonneg _ (by omega), Int.emod_lt_of_pos _ (by omega)⟩⟩
  · rw [decide_eq_false c]
    refine iteF ?_
    refine ⟨_, rfl, _, _, _, _, rfl, rfl, hsq, at2, _, _, rfl, rfl, _, rfl, a, _, _, 2, rfl, rfl, hp, rfl, ?_⟩
    have hp2 : upd H a (.lst (([.int g, .int sd, .int n] : List V).set 2 (.int (n + 1)))) a = some (.lst [.int g, .int sd, .int (n + 1)]) := upd_same
    have b2 : But a H (upd H a (.lst (([.int g, .int sd, .int n] : List V).set 2 (.int (n + 1))))) := But.upd
    have hsq2 : SqL K _ a [.int g, .int sd, .int (n + 1)] := .of hp2
    have md : ∀ (u : Int), (fun (_ j : Int) => 0 < j) u m := fun u => by show (0 : Int) < m; omega
    refine ⟨_, rfl, _, _, _, _, rfl, rfl, hsq2, at1, _, _, rfl, rfl, _, rfl, _, _, _, _, rfl, rfl, hsq2, at2, _, _, rfl, rfl, .inl (by decide), _, _, rfl, rfl, _, _, rfl, rfl, .inl ?_, .inl ⟨_, rfl, _, _, rfl, rfl, (by show (0 : Int) < 2147483647; decide), ?_⟩⟩
    · show -(2 ^ 64) < sd + 1 ∧ sd + 1 < 2 ^ 64
      omega
    have mb : ∀ u : Int, -(2 ^ 64) < u % 2147483647 ∧ u % 2147483647 < 2 ^ 64 := fun u => by
      have h0 := Int.emod_nonneg u (show (2147483647 : Int) ≠ 0 by decide)
      have h1 := Int.emod_lt_of_pos u (show (0 : Int) < 2147483647 by decide)
      omega
    refine ⟨_, rfl, _, rfl, _, _, rfl, rfl, ⟨(by show (0 : Int) < 1009; decide), (by show (1009 : Int) < 1073741824; decide)⟩, _, _, rfl, rfl, _, _, rfl, rfl, .inl (by constructor <;> omega), .inl ⟨_, rfl, _, _, rfl, rfl, (by show (0 : Int) < 2147483647; decide), ?_⟩⟩
    refine ⟨_, rfl, _, rfl, _, _, rfl, rfl, ⟨(by show (0 : Int) < 2003; decide), (by show (2003 : Int) < 1073741824; decide)⟩, _, _, rfl, rfl, _, _, rfl, rfl, .inl (by constructor <;> omega), .inl ⟨_, rfl, _, _, rfl, rfl, (by show (0 : Int) < 2147483399; decide), ?_⟩⟩
    refine ⟨_, rfl, _, _, rfl, rfl, ⟨(by show (0 : Int) < 16; decide), (by show (16 : Int) < 1073741824; decide)⟩, .inl ⟨_, rfl, _, rfl, _, _, rfl, rfl, (by show (0 : Int) < m; omega), ?_⟩⟩
    exact q _ _ b2 ⟨g, sd, n + 1, hp2, hg, hs, by omega⟩ ⟨Int.emod_nonneg _ (by omega), Int.emod_lt_of_pos _ (by omega)⟩
end

end M

set_option Elab.async false
set_option linter.all false
set_option maxRecDepth 100000
set_option maxHeartbeats 2000000
namespace M
open PySem PySem.Spec PyProof.Rows L2

theorem PoolAt.ch {H : Hp} {a : Addr} (h : PoolAt H a) : Ch H a := by
  obtain ⟨_, _, _, h, _⟩ := h
  exact .lst h
theorem PoolAt.same {H H' : Hp} {a : Addr} (s : Same H H') (h : PoolAt H a) : PoolAt H' a := by
  obtain ⟨_, _, _, h, r⟩ := h
  exact ⟨_, _, _, s _ _ h, r⟩
theorem PoolAt.at {H : Hp} {a : Addr} (h : PoolAt H a) : ∃ l, H a = some (.lst l) := by
  obtain ⟨_, _, _, h, _⟩ := h
  exact ⟨_, h⟩
theorem PoolAt.but {H H' : Hp} {a D : Addr} (ne : a ≠ D) (b : But D H H') (h : PoolAt H a) : PoolAt H' a := by
  obtain ⟨_, _, _, h, r⟩ := h
  exact ⟨_, _, _, b _ _ ne h, r⟩
theorem pool_ne {H : Hp} {p b : Addr} (h : PoolAt H p) (nb : H b = none) : p ≠ b := fun e => by
  obtain ⟨_, _, _, h, _⟩ := h
  rw [e, nb] at h
  cases h
theorem pool_nl {H : Hp} {p l : Addr} (h : PoolAt H p) (nb : H l = none) : l ≠ p := fun e => (pool_ne h nb) e.symm
theorem ix_tupK {X : Cx} (K : PySem.W.Frag) (hK : X.K = K) : IxR X (rIxT K) := hK ▸ ix_tup

end M

set_option Elab.async false
set_option linter.all false
set_option maxRecDepth 100000
set_option maxHeartbeats 2000000
namespace M
open PySem PySem.Spec PyProof.Rows L2

/-! ### an own error without arguments -/
section
variable {X : Cx} {C : Addr} {bmB : List Value} {B newId initId : String}
theorem pmk_own0 {x : Str} {p pos : Pos} (F : ExcBaseFacts B newId initId bmB) (q : PySem.W.excIn X.K C bmB newId = true) (gC : X.mg x = some (.ref C)) (kC : PySem.W.keepIn X.K (.ref C) = true) (r : Raises X (.ref C)) (hg : Gl X x := by rfl)
    (hdb : (x == ("__debug__" : Str)) = false := by decide) : PMk X (.Call (.Name x p) [] [] pos) (fun _ H Q => Q (.ref C) none H) := by
  intro pins s σ H Q I h
  refine wpAny_Call_Name_kw (ld_glob I hg gC ?_ hdb)
  refine PySem.W.callWith_K0 I.kIn kC ?_
  show wpAny _ _ (call (.ref C) []) _ _ _
  obtain ⟨bm, N, nm, qn, bs, hdct, sn, sub, ab, col, dd, k0, k1, k2, k3, k5, mN, hC, hN, hni, T⟩ := exc_obj I.kIn q
  refine wpAny_call_exc_subT F T hC hN hni (fun h' e hm => ?_) (Nat.zero_le _)
  exact mk_of I hm r h (I.hok.gone hm.new)
end
/-! ### defs that may raise -/
structure CaX (P : Program) (w : World) (K : PySem.W.Frag) (mg : Str → Option Value) (base : Heap) (k : Nat) (x : Str) (sp : Sp) : Prop where
  ex : ∃ (f : Addr) (fd : FuncData) (ps : List Str), FnOk P w K mg base (L2.CX P w) k f fd ps sp ∧ mg x = some (.ref f) ∧ PySem.W.keepIn K (.ref f) = true ∧ Binds K fd ps []
structure CfX (P : Program) (w : World) (K : PySem.W.Frag) (mg : Str → Option Value) (base : Heap) (k : Nat) (x : Str) (ps : List Str) (sp : Sp) : Prop where
  ex : ∃ (fd : FuncData) (oc : Value) (od : Option Addr) (osl : Array (Option Value)), K.lookup (He.ga K x) = some ⟨oc, od, .func fd, osl⟩ ∧ FnOk P w K mg base (L2.CX P w) k (He.ga K x) fd ps sp ∧ PySem.W.keepIn K (.ref (He.ga K x)) = true ∧ Binds K fd ps []
  g : mg x = some (.ref (He.ga K x))
section
variable {P : Program} {w : World} {K : PySem.W.Frag} {mg : Str → Option Value} {base : Heap} {x m q : Str} {st : Stmt} {N ps : List Str} {k : Nat} {sp : Sp} {C f : Addr}
abbrev BodyX (P : Program) (w : World) (K : PySem.W.Frag) (mg : Str → Option Value) (base : Heap) (q : Str) (st : Stmt) (N : List Str) (k : Nat) (f : Addr) (sp : Sp) : Prop := ∀ (cdv : Value) (A : Around) (outer : List Env) (s : Shared) (H : Hp) (vs : List V) (Q : VK) (E : XK), Room k (A.deeper (envOfC q (defScope st) s.heap.objs.size f cdv)) → sp vs H Q E →
      ∃ t, PSs (cxOf (L2.CX P w) P w K mg base N q (defScope st) f cdv A outer s H E) (defBody st) t ∧ t { nx := fun _ H' => Q .non H', rt := Q } (start N vs) H
theorem ca_ofX (F : ∃ fd, FunD K x x (defArgs st) (defBody st) (defScope st) [] [] (He.fAd K (x, none)) fd) (g : mg x = some (.ref (He.ga K x))) (S : FnScope N ps (defScope st)) (hb : BindsH x x st ps) (len : ∀ vs H Q E, sp vs H Q E → vs.length = ps.length)
    (hbody : BodyX P w K mg base x st N k (He.fAd K (x, none)) sp) : CaX P w K mg base (k + 1) x sp := by
  obtain ⟨fd, F⟩ := F
  exact ⟨_, fd, ps, F.ok S len hbody, g, F.kp, F.bindsN hb⟩
theorem cf_ofX (F : ∃ fd, FunD K x x (defArgs st) (defBody st) (defScope st) [] [] (He.fAd K (x, none)) fd) (g : mg x = some (.ref (He.ga K x))) (S : FnScope N ps (defScope st)) (hb : BindsH x x st ps) (len : ∀ vs H Q E, sp vs H Q E → vs.length = ps.length)
    (hbody : BodyX P w K mg base x st N k (He.fAd K (x, none)) sp) : CfX P w K mg base (k + 1) x ps sp := by
  obtain ⟨fd, F⟩ := F
  obtain ⟨oc, od, dV, kV, doc, pm, an, cdv, ct, osl, e, lk, _⟩ := F.ex
  exact ⟨⟨fd, oc, od, osl, lk, F.ok S len hbody, F.kp, F.bindsN hb⟩, g⟩
theorem CfX.mono {j : Nat} (c : CfX P w K mg base j x ps sp) (h : j ≤ k) : CfX P w K mg base k x ps sp := by
  obtain ⟨fd, oc, od, osl, lk, F, r⟩ := c.ex
  exact ⟨⟨fd, oc, od, osl, lk, F.mono h, r⟩, c.g⟩
/-- who raises nothing may stand among those who may -/
theorem fn_toX {fd : FuncData} (F : FnOk P w K mg base CX0 k f fd ps sp) : FnOk P w K mg base (L2.CX P w) k f fd ps sp :=
  ⟨F.len, fun A outer s H args us vs Q E hr he hb hv h => codeAny_mono (F.run A outer s H args us vs Q E hr he hb hv h) fun r s' hq => by
    cases r with
    | error e => exact hq.elim
    | ok fl => cases fl <;> exact hq⟩
theorem Cf.toX (c : Cf P w K mg base k x ps sp) : CfX P w K mg base k x ps sp := by
  obtain ⟨fd, oc, od, osl, lk, F, r⟩ := c.ex
  exact ⟨⟨fd, oc, od, osl, lk, fn_toX F, r⟩, c.g⟩
end
section
variable {X : Cx} {k j : Nat} {x : Str} {sp : Sp} {p pos : Pos} {e : Expr} {es : List Expr} {t : TA}
theorem pe_caX {W : WX} (c : CaX X.prog X.w X.K X.mg X.base k x sp) (hr : Room j X.A) (tk : Takes X W) (ha : PA X (e :: es) t) (hk : k ≤ j := by decide) (hg : Gl X x := by rfl)
    (hdb : (x == ("__debug__" : Str)) = false := by decide) (he : starEach (e :: es) X.env = (false, eval e X.env) :: starEach es X.env := by rfl) (hpl : (backTo pos (starEach es X.env)).any (·.1) = false := by rfl) :
    PE X (.Call (.Name x p) (e :: es) [] pos) (tCallS sp (WE W) t) := by
  obtain ⟨f, fd, ps, F, hm, kp, b⟩ := c.ex
  exact pe_callS F (hr.mono hk) hg hm kp b (fun σ => passAt tk σ) ha hdb he hpl
/-- of several defs that the slot may hold, such as may raise -/
structure HeldX (P : Program) (w : World) (K : PySem.W.Frag) (mg : Str → Option Value) (base : Heap) (k : Nat) (f : Addr) (sp : Sp) : Prop where
  ex : ∃ (fd : FuncData) (ps : List Str), FnOk P w K mg base (L2.CX P w) k f fd ps sp ∧ PySem.W.keepIn K (.ref f) = true ∧ Binds K fd ps []
def tCallAX (i : Nat) (S : Addr → Option Sp) (E : XK) (t : TA) : TE := fun σ H Q => ∃ f sp, σ[i]? = some (some (.ref f)) ∧ S f = some sp ∧ t σ H fun vs H1 => sp vs H1 Q E
theorem pe_callAX {i : Nat} {S : Addr → Option Sp} {E : XK} (A : ∀ f sp, S f = some sp → HeldX X.prog X.w X.K X.mg X.base k f sp) (hr : Room k X.A) (tk : Takes X (fun cls d _ H => E cls d H)) (hN : X.N[i]? = some x) (hv : Vis X.env.scope x) (ha : PA X (e :: es) t)
    (hdb : (x == ("__debug__" : Str)) = false := by decide) (hcd : (x == ("__classdict__" : Str)) = false := by decide)
    (he : starEach (e :: es) X.env = (false, eval e X.env) :: starEach es X.env := by rfl) (hpl : (backTo pos (starEach es X.env)).any (·.1) = false := by rfl) : PE X (.Call (.Name x p) (e :: es) [] pos) (tCallAX i S E t) := by
  refine ⟨fun pins s σ H Q I h => ?_⟩
  obtain ⟨f, sp, hs, hS, ht⟩ := h
  obtain ⟨fd, ps, F, hk, hb⟩ := (A f sp hS).ex
  refine (pe_callL (i := i) (f := f) (sp := sp) (dvs := []) (E := E) F hr hN hv hk hb .nil (fun pins σ H s e s' I c => passAt tk σ pins H s e s' I c) ha hdb hcd he hpl).run pins s σ H Q I ⟨hs, ?_⟩
  have e0 : (fun (vs : List V) (H1 : Hp) => sp (vs ++ []) H1 Q E) = fun vs H1 => sp vs H1 Q E := by
    funext vs H1
    rw [List.append_nil]
  show t σ H (fun vs H1 => sp (vs ++ []) H1 Q E)
  rw [e0]
  exact ht
end

end M

set_option Elab.async false
set_option linter.all false
set_option maxRecDepth 100000
set_option maxHeartbeats 2000000
namespace M
open PySem PySem.Spec PyProof.Rows L2

/-! ### try with clauses, each with a name or without -/
/-- an exception has come down to the clauses: it is at a; u is the state without it, s the state now -/
structure Came (X : Cx) (pins : List (Addr × Obj)) (G : Heap) (u s : Shared) (a : Addr) (σ : L2.St) (H : Hp) (cls : Value) (d : Option Addr) : Prop where
  inv : Inv X pins σ H u
  out : ∀ b o, u.heap.get? b = some o → b ∉ frs X.stack → G.get? b = some o
  up : u.heap.UpToSlots s.heap
  fly : HandSPX.FlyingZ G (X.env :: X.outer) a (Zc cls d) s.heap
  no : H a = none
  os : s.os = u.os
  bare : AllBare s.gens
section
variable {X : Cx} {pins : List (Addr × Obj)} {G : Heap} {u s : Shared} {a : Addr} {σ : L2.St} {H : Hp} {cls : Value} {d : Option Addr}
theorem Came.now (c : Came X pins G u s a σ H cls d) : Inv X pins σ H s := c.inv.landed c.out c.fly.1 c.up c.os c.bare
theorem Came.spot (c : Came X pins G u s a σ H cls d) (hf : X.env.frame = some X.env.locals) : ∃ oe, s.heap.get? a = some oe ∧ Zc cls d oe ∧ (∃ vs, oe.data = .fields vs) ∧ a ≠ X.env.locals ∧ a ∉ X.fs := by
  obtain ⟨oe, vs, e1, e2, e3⟩ := c.fly.there
  have away : ∀ env ∈ X.env :: X.outer, env.frame ≠ some a := by
    intro env hm z
    obtain ⟨_, o2, q1, q2⟩ := c.fly.2.2.1.mem (List.mem_filterMap.mpr ⟨env, hm, z⟩ : a ∈ frs (X.env :: X.outer))
    cases e1.symm.trans q1
    exact q2 _ e3
  refine ⟨oe, e1, e2, ⟨vs, e3⟩, ?_, ?_⟩
  · intro z
    exact away X.env List.mem_cons_self (hf.trans (congrArg some z.symm))
  · intro hm
    obtain ⟨env, h1, h2⟩ := List.mem_filterMap.mp hm
    exact away env (List.mem_cons_of_mem _ h1) h2
theorem Came.on (c : Came X pins G u s a σ H cls d) {h : Heap} (fl : HandSPX.FlyingZ G (X.env :: X.outer) a (Zc cls d) h) (up : s.heap.UpToSlots h) : Came X pins G u { s with heap := h } a σ H cls d :=
  ⟨c.inv, c.out, c.up.trans up, fl, c.no, c.os, c.bare⟩
end
/-- the clauses keep their wish -/
def Hands (X : Cx) (hds : List ExceptHandler) (wish : Ends → WX) : Prop := ∀ (pins : List (Addr × Obj)) (G : Heap) (u s : Shared) (a : Addr) (σ : L2.St) (H : Hp) (cls : Value) (d : Option Addr) (D : Ends), Came X pins G u s a σ H cls d → wish D cls d σ H →
  wpAny (model X.prog X.w) X.A (handleBy (.ref a) X.env hds) (SP X pins D) X.xe s
/-- a clause without a name, then the others -/
def wOne (K : PySem.W.Frag) (c : Value) (ts : Addr → Value → Option Addr → TS) (wish : Ends → WX) : Ends → WX := fun D cls d σ H =>
  ∃ b, PySem.W.exmOne K cls c = some b ∧ (b = true → ∀ a, H a = none → ts a cls d D σ H) ∧ (b = false → wish D cls d σ H)
/-- the ends of a suite whose clause keeps the exception at the slot i -/
def lets (i : Nat) (D : Ends) : Ends := ⟨fun σ H => D.nx (σ.set i none) H, D.rt, fun σ H => D.bk (σ.set i none) H, fun σ H => D.ct (σ.set i none) H⟩
/-- a clause with a name, its slot i, then the others -/
def wNmd (K : PySem.W.Frag) (c : Value) (i : Nat) (ts : Addr → Value → Option Addr → TS) (wish : Ends → WX) : Ends → WX := fun D cls d σ H =>
  ∃ b, PySem.W.exmOne K cls c = some b ∧ (b = true → ∀ a, H a = none → ts a cls d (lets i D) (σ.set i (some (.ref a))) H) ∧ (b = false → wish D cls d σ H)
section
variable {X : Cx} {x n : Str} {c : Value} {i : Nat} {b0 : Stmt} {bs body orelse : List Stmt} {hd : ExceptHandler} {hds : List ExceptHandler} {wish : Ends → WX} {ts : Addr → Value → Option Addr → TS} {np pos hpos : Pos} {Wout : WX} {tb : WX → TS} {te : TS}
theorem hands_nil (hs : X.stack = X.env :: X.outer) (hf : X.env.frame = some X.env.locals) (tk : Takes X Wout) : Hands X [] (fun _ => Wout) := by
  intro pins G u s a σ H cls d D c h
  apply wpAny_handleBy_nil
  obtain ⟨_, _, _, oe, vs, T, oT, tr, e1, e2, e3, e4, _⟩ := id c.fly
  unfold PySem.passOn
  apply wpAny_bind
  refine wpAny_field e1 e3 e4 ?_
  have ne : ¬ ((Value.ref T == Value.none) = true) := by simp
  have last : wpAny (model X.prog X.w) X.A (setFlight (.ref a) X.env.frame) (fun _ z => wpAny (model X.prog X.w) X.A (throw (.ref a) : Sem Flow) (SP X pins D) X.xe z) X.xe s := by
    rw [hf]
    apply HandSPX.setFlight_upZ c.fly
    intro h4 held up
    apply wpAny_throw
    apply tk
    refine ⟨a, G, u, pins, σ, H, cls, d, rfl, c.inv, c.out, c.up.trans up, Or.inr (Or.inr ?_), c.no, c.os, c.bare, h⟩
    rw [hs]
    exact held
  simp only [if_neg ne]
  first
    | exact wpAny_bind (wpAny_pure (wpAny_bind last))
    | exact wpAny_bind last
theorem came_test {pins : List (Addr × Obj)} {G : Heap} {u s : Shared} {a : Addr} {σ : L2.St} {H : Hp} {cls : Value} {d : Option Addr} {b : Bool} (hc : Names X x c) (hf : X.env.frame = some X.env.locals) (k : Came X pins G u s a σ H cls d) (hb : PySem.W.exmOne X.K cls c = some b)
    {E Z : Value → Shared → Prop} {Q : Bool → Shared → Prop} (q : Q b s) : wpAny (model X.prog X.w) (X.A.mark (some (.ref a))) (eval (.Name x np) X.env) (fun v s1 => wpAny (model X.prog X.w) (X.A.mark (some (.ref a))) (excMatches (.ref a) v) Q E s1) Z s := by
  obtain ⟨oe, e1, e2, ⟨vs, e3⟩, nL, nF⟩ := k.spot hf
  have J := k.now
  have S := J.suite e1 e3 k.no nL nF
  have LT : PySem.W.Looks (model X.prog X.w) s.heap (typeOf (.ref a)) cls := by
    intro A1 Q1 E1 s1 keep q1
    refine wpAny_typeOf_ref (keep _ _ e1) ?_
    rw [e2.1]
    exact q1
  have LM := PySem.W.exm_one (M := model X.prog X.w) J.kIn LT hb
  have q2 := LM.here (A := X.A.mark (some (.ref a))) (E := E) q
  obtain ⟨h1, h2, h3⟩ := hc
  rcases h3 with h3 | ⟨h3, h4, h5⟩
  · exact ld_glob (X := X.suite a ((a, oe) :: (X.pn ++ pins))) S h1 h3 q2 h2
  · exact ld_blt (X := X.suite a ((a, oe) :: (X.pn ++ pins))) S h1 h3 h4 q2 h5 h2
theorem hands_one (hc : Names X x c) (hf : X.env.frame = some X.env.locals)
    (su : ∀ (a : Addr) (oe : Obj) (cls : Value) (d : Option Addr) (pn : List (Addr × Obj)), Zc cls d oe → (∃ vs, oe.data = .fields vs) → PSs (X.suite a ((a, oe) :: pn)) (b0 :: bs) (ts a cls d)) (r : Hands X hds wish) :
    Hands X (.ExceptHandler (some (.Name x np)) none (b0 :: bs) hpos :: hds) (wOne X.K c ts wish) := by
  intro pins G u s a σ H cls d D k h
  obtain ⟨b, h1, h2, h3⟩ := h
  refine wpAny_handleBy_cons (codeAny_handlers_test ?_) (fun q => by cases q)
  refine came_test (d := d) hc hf k h1 ?_
  cases b
  · exact r pins G u s a σ H cls d D k (h3 rfl)
  · apply codeAny_handlers_suite
    apply HandSPX.lands_againZ k.fly
    intro h4 fl4 up4
    have k4 := k.on fl4 up4
    obtain ⟨oe, e1, e2, ⟨vs, e3⟩, nL, nF⟩ := k4.spot hf
    have S := k4.now.suite e1 e3 k4.no nL nF
    refine wpAny_mono ((su a oe cls d (X.pn ++ pins) e2 ⟨vs, e3⟩).run [] _ σ H D S (h2 rfl a k.no)) ?_ (fun _ _ z => z.elim)
    intro f s6 z
    have ok := k.inv.ok
    cases f with
    | ret v =>
      obtain ⟨v6, σ6, H6, S6, z1, z2⟩ := z
      exact ⟨v6, σ6, H6, S6.unsuite ok, z1, z2⟩
    | next => exact match z with | ⟨σ6, H6, S6, z1⟩ => ⟨σ6, H6, S6.unsuite ok, z1⟩
    | brk => exact match z with | ⟨σ6, H6, S6, z1⟩ => ⟨σ6, H6, S6.unsuite ok, z1⟩
    | cont => exact match z with | ⟨σ6, H6, S6, z1⟩ => ⟨σ6, H6, S6.unsuite ok, z1⟩
theorem hands_as (hc : Names X x c) (hf : X.env.frame = some X.env.locals) (hN : X.N.Nodup) (hi : X.N[i]? = some n) (hl : X.env.kindOf n = some .local)
    (su : ∀ (a : Addr) (oe : Obj) (cls : Value) (d : Option Addr) (pn : List (Addr × Obj)), Zc cls d oe → (∃ vs, oe.data = .fields vs) → PSs (X.suite a ((a, oe) :: pn)) (b0 :: bs) (ts a cls d)) (r : Hands X hds wish) :
    Hands X (.ExceptHandler (some (.Name x np)) (some n) (b0 :: bs) hpos :: hds) (wNmd X.K c i ts wish) := by
  intro pins G u s a σ H cls d D k h
  obtain ⟨b, h1, h2, h3⟩ := h
  refine wpAny_handleBy_cons (codeAny_handlers_test ?_) (fun q => by cases q)
  refine came_test (d := d) hc hf k h1 ?_
  cases b
  · exact r pins G u s a σ H cls d D k (h3 rfl)
  · apply codeAny_handlers_suite_as
    apply HandSPX.lands_againZ k.fly
    intro h4 fl4 up4
    have k4 := k.on fl4 up4
    obtain ⟨oe, e1, e2, ⟨vs, e3⟩, nL, nF⟩ := k4.spot hf
    have S := k4.now.suite e1 e3 k4.no nL nF
    refine store_ok (X := X.suite a ((a, oe) :: (X.pn ++ pins))) (v := .ref a) S hN hi (.inl hl) rfl ?_ (.inr hl)
    intro s5 S5
    refine wpAny_mono ((su a oe cls d (X.pn ++ pins) e2 ⟨vs, e3⟩).run [] s5 _ H (lets i D) S5 (h2 rfl a k.no)) ?_ (fun _ _ z => z.elim)
    intro f s6 z
    have ok := k.inv.ok
    cases f with
    | ret v =>
      obtain ⟨v6, σ6, H6, S6, z1, z2⟩ := z
      exact gone_ok (S6.unsuite ok) hN hi hl fun s7 J7 => ⟨v6, _, H6, J7, z1, z2⟩
    | next => exact match z with | ⟨σ6, H6, S6, z1⟩ => gone_ok (S6.unsuite ok) hN hi hl fun s7 J7 => ⟨_, H6, J7, z1⟩
    | brk => exact match z with | ⟨σ6, H6, S6, z1⟩ => gone_ok (S6.unsuite ok) hN hi hl fun s7 J7 => ⟨_, H6, J7, z1⟩
    | cont => exact match z with | ⟨σ6, H6, S6, z1⟩ => gone_ok (S6.unsuite ok) hN hi hl fun s7 J7 => ⟨_, H6, J7, z1⟩
/-- try: body, then clauses that keep their wish, and an else -/
theorem ps_tryH (hh : Hands X (hd :: hds) wish) (hs : X.stack = X.env :: X.outer) (hf : X.env.frame = some X.env.locals)
    (hb : ∀ (W : WX) (pn : List (Addr × Obj)) (xe : Value → Shared → Prop), Takes (X.tr pn xe) W → PassesOwn (model X.prog X.w) X.A X.env xe → PSs (X.tr pn xe) body (tb W)) (ho : PSs X orelse te) :
    PS X (.Try body (hd :: hds) orelse [] pos) (fun D σ H => tb (wish D) ⟨te D, D.rt, D.bk, D.ct⟩ σ H) := by
  refine ⟨?_⟩
  intro pins s σ H D I h
  have hfr : X.A.frames = some (X.env :: X.outer) := I.ok.frames.trans (congrArg some hs)
  let xe : Value → Shared → Prop := fun e z => wpAny (model X.prog X.w) X.A (noteFrame e X.env) (fun _ z2 => wpAny (model X.prog X.w) X.A (setFlight e none) (fun _ z3 => wpAny (model X.prog X.w) X.A (handleBy e X.env (hd :: hds)) (SP X pins D) X.xe z3) X.xe z2) X.xe z
  have catches : Takes (X.tr (X.pn ++ pins) xe) (wish D) := by
    intro e z w
    obtain ⟨a, G, z0, pins1, σ1, H1, cls, d, rfl, J, w1, w2, w3, w4, w5, w6, w7⟩ := w
    have w3 : Sky G X.stack a (Zc cls d) X.env.locals z.heap := w3
    rw [hs] at w3
    refine Sky.land (M := model X.prog X.w) (A := X.A) (E₁ := X.xe) Zc.steady hfr hf w3 ?_
    intro h3 fl up
    exact hh pins G z0 { z with heap := h3 } a σ1 H1 cls d D ⟨J.ofTry I.ok, w1, w2.trans up, fl, w4, w5, w6⟩ w7
  apply wpAny_Try_except
  refine wpAny_mono ((hb (wish D) (X.pn ++ pins) xe catches PassesOwn.looking).run [] s σ H _ (I.toTry _) h) ?_ (fun _ _ z => z)
  intro f s1 z
  cases f with
  | ret v => exact match z with | ⟨v1, σ1, H1, J, z1, z2⟩ => ⟨v1, σ1, H1, J.ofTry I.ok, z1, z2⟩
  | brk => exact match z with | ⟨σ1, H1, J, z1⟩ => ⟨σ1, H1, J.ofTry I.ok, z1⟩
  | cont => exact match z with | ⟨σ1, H1, J, z1⟩ => ⟨σ1, H1, J.ofTry I.ok, z1⟩
  | next =>
    obtain ⟨σ1, H1, J, z1⟩ := z
    exact ho.run pins s1 σ1 H1 D (J.ofTry I.ok) z1
end

end M

set_option Elab.async false
set_option linter.all false
set_option maxRecDepth 100000
set_option maxHeartbeats 2000000
namespace M
open PySem PySem.Spec PyProof.Rows L2

/-! ### errors with a field -/
theorem oexS_ok {K : PySem.W.Frag} {C : Addr} (h : oexS K C = true) : ∃ nm q N bs bm sn sub ab col dd k0 k1 k2 k3 k5, K.lookup C = some (excClassObj nm q C N bs bm true sn sub ab col dd k0 k1 k2 k3 k5 "ValueError.__new__") ∧ PySem.HandSPX.refsVE bm = true := by
  unfold oexS at h
  split at h
  · rename_i t dd cd sl hl
    split at h
    · rename_i D bm k0 k1 k2 k3 n k5 hm hs
      obtain ⟨h1, h⟩ := He.ba h
      obtain ⟨h2, h⟩ := He.ba h
      obtain ⟨h3, h⟩ := He.ba h
      obtain ⟨h4, h⟩ := He.ba h
      obtain ⟨h5, h6⟩ := He.ba h
      cases of_decide_eq_true h1
      cases of_decide_eq_true h2
      cases of_decide_eq_true h3
      obtain ⟨nm, bs, mr, ns, qn, hd, sn, sub, ab, col, de⟩ := cd
      dsimp only at hm h4 h5
      subst hm
      cases h4
      have h5 : de = false := by cases de <;> first | rfl | cases h5
      subst h5
      obtain ⟨sl⟩ := sl
      have hs : sl = [k0, k1, k2, k3, some (.builtin "ValueError.__new__"), k5] := hs
      subst hs
      exact ⟨nm, qn, ns, bs, bm, sn, sub, ab, col, dd, k0, k1, k2, k3, k5, hl, h6⟩
    · cases h
  · cases h
/-- the class x is an error class with an __init__ of its own, which keeps the field f -/
structure Xc (K : PySem.W.Frag) (x f : Str) : Prop where
  oex : OexC K (He.ga K x)
  xf : XfC K (He.ga K x)
  no : PySem.W.findIn K (.ref (He.ga K x)) f = some none
  ini : PySem.W.findIn K (.ref (He.ga K x)) "__init__" = some (some (.ref (He.ma K (He.ga K x) "__init__")))
  fn : PySem.W.typeIn K (.ref (He.ma K (He.ga K x) "__init__")) = some (.type "function")
theorem oexB_ok {K : PySem.W.Frag} {x f : Str} (h : oexB K x f = true) : Xc K x f := by
  obtain ⟨h1, h⟩ := He.ba h
  obtain ⟨h2, h⟩ := He.ba h
  obtain ⟨h3, h⟩ := He.ba h
  obtain ⟨h4, h⟩ := He.ba h
  obtain ⟨h5, h⟩ := He.ba h
  obtain ⟨h6, h⟩ := He.ba h
  obtain ⟨h7, h⟩ := He.ba h
  obtain ⟨h8, h9⟩ := He.ba h
  exact ⟨⟨oexS_ok h1, He.eqO_ok h2, of_decide_eq_true h3, of_decide_eq_true h4, h5⟩, xfB_ok h6, He.eqO_ok h7, He.eqO_ok h8, of_decide_eq_true h9⟩
section
variable {X : Cx} {x f : Str} {e : Expr} {es : List Expr} {ta : TA} {p1 p2 p pos : Pos}
/-- PastError.__init__(self, ..) -/
theorem pe_pinit {pl : Sem Bool} (hm : X.mg x = some (.ref (He.ga X.K x))) (pn : pinB X.K x = true) (ha : PA X (e :: es) ta) (hg : Gl X x := by rfl) (hdb : (x == ("__debug__" : Str)) = false := by decide)
    (hc : eval (.Call (.Attribute (.Name x p1) "__init__" p2) (e :: es) [] pos) X.env = (do
      let ov ← eval (.Name x p1) X.env
      standAt p2.atName
      let (f, first) ← holding [ov] (getMethod ov "__init__" pl)
      callWith pos f first (backTo pos (starEach (e :: es) X.env)) (backToKw pos (keywordEach [] X.env))) := by rfl)
    (he : starEach (e :: es) X.env = (false, eval e X.env) :: starEach es X.env := by rfl) (hpl : (backTo pos (starEach es X.env)).any (·.1) = false := by rfl) :
    PE X (.Call (.Attribute (.Name x p1) "__init__" p2) (e :: es) [] pos) (tVeI X.K ta) := by
  obtain ⟨h1, pn⟩ := He.ba pn
  obtain ⟨h2, h3⟩ := He.ba pn
  have h3 : PySem.W.findCls X.K (.ref (He.ga X.K x)) (.type "type") "__init__" = some (.val (.builtin "ValueError.__init__")) := by
    split at h3
    · rename_i i hi
      cases of_decide_eq_true h3
      exact hi
    · cases h3
  refine ⟨?_⟩
  intro pins s σ H Q I h
  refine PySem.W.methodCall_KW ?_ hc
  refine ld_glob I hg hm ?_ hdb
  refine PySem.W.method_cls I.kIn (of_decide_eq_true h2) ?_
  refine PySem.W.cls_value I.kIn h1 h3 (by decide +kernel) ?_
  refine PyProof.Rows.callWith_method1 (id := "ValueError.__init__") (thn (ha.run pos pins _ σ H _ (I.tok _) h) ?_) he hpl
  rintro us s1 ⟨vs, H1, I1, r1, a, C, ws, rfl, hl, T, ea, q⟩
  obtain ⟨u0, ur, rfl, ra, rw'⟩ : ∃ u0 ur, us = u0 :: ur ∧ RelV (.ref a) u0 ∧ Vals ws ur := by
    cases r1 with | cons z1 z2 => exact ⟨_, _, rfl, z1, z2⟩
  cases (ra : u0 = Value.ref a)
  refine oinit_ok T I1 ea ?_ fun s2 J => ⟨.non, H1, J, rfl, q⟩
  rw [sizeLine_eq, ← Paired.length rw']
  omega
end
/-- what such an __init__ does -/
def spXi (K : PySem.W.Frag) (x f : Str) : Sp := fun vs H Q _ => ∃ (a : Addr) (v : V), vs = [.ref a, v] ∧ H a = some (exo a (He.ga K x) none) ∧ ∀ dx, H dx = none → dx ≠ a → Q .non (upd (upd H dx (exd dx [(f, v)])) a (exo a (He.ga K x) (some dx)))
/-- the error class x, its __init__ known -/
structure Xi (P : Program) (w : World) (K : PySem.W.Frag) (mg : Str → Option Value) (base : Heap) (k : Nat) (x f : Str) : Prop where
  c : Xc K x f
  g : mg x = some (.ref (He.ga K x))
  ex : ∃ (fd : FuncData) (ps : List Str), FnOk P w K mg base CX0 k (He.ma K (He.ga K x) "__init__") fd ps (spXi K x f) ∧ Binds K fd ps []
section
variable {P : Program} {w : World} {K : PySem.W.Frag} {mg : Str → Option Value} {base : Heap} {x f q : Str} {st : Stmt} {N ps : List Str} {k : Nat}
theorem xi_of (F : ∃ fd, FunD K "__init__" q (defArgs st) (defBody st) (defScope st) [] [] (He.fAd K (x, some "__init__")) fd) (g : mg x = some (.ref (He.ga K x))) (o : oexB K x f = true) (S : FnScope N ps (defScope st)) (hb : BindsH "__init__" q st ps) (two : ps.length = 2)
    (hbody : BodyH P w K mg base q st N k (He.fAd K (x, some "__init__")) (spXi K x f)) : Xi P w K mg base (k + 1) x f := by
  obtain ⟨fd, F⟩ := F
  refine ⟨oexB_ok o, g, fd, ps, fn_d F S ?_ hbody, F.bindsN hb⟩
  rintro vs H Q E ⟨a, v, rfl, _⟩
  exact two.symm
end
/-- what such an __init__ keeps, where an error was just laid -/
theorem xi_made {K : PySem.W.Frag} {x f : Str} {H : Hp} {a : Addr} {v : V} {Q : VK} {E : XK} (g : ∀ d, H d = none → d ≠ a → Q .non (upd (upd H d (exd d [(f, v)])) a (exo a (He.ga K x) (some d)))) : spXi K x f [.ref a, v] (upd H a (exo a (He.ga K x) none)) Q E := by
  refine ⟨a, v, rfl, upd_same, ?_⟩
  intro d hd hne
  have hd2 : H d = none := by rwa [upd_ne hne] at hd
  have e : upd (upd (upd H a (exo a (He.ga K x) none)) d (exd d [(f, v)])) a (exo a (He.ga K x) (some d)) = upd (upd H d (exd d [(f, v)])) a (exo a (He.ga K x) (some d)) := by
    funext b
    by_cases hb : b = a
    · rw [hb, upd_same, upd_same]
    · rw [upd_ne hb, upd_ne hb]
      by_cases hc : b = d
      · rw [hc, upd_same, upd_same]
      · rw [upd_ne hc, upd_ne hc, upd_ne hb]
  rw [e]
  exact g d hd2 hne
/-! ### such an error, raised -/
section
variable {X : Cx} {k j : Nat} {x f : Str} {e : Expr} {te : TE} {p pos : Pos}
/-- raise x(e) -/
theorem pmk_x (c : Xi X.prog X.w X.K X.mg X.base k x f) (hr : Room j X.A) (he : PE X e te) (hs : starEach [e] X.env = (false, eval e X.env) :: starEach [] X.env := by rfl) (hpl : (backTo pos (starEach [] X.env)).any (·.1) = false := by rfl) (hk : k + 1 ≤ j := by decide) (hg : Gl X x := by rfl)
    (hdb : (x == ("__debug__" : Str)) = false := by decide) : PMk X (.Call (.Name x p) [e] [] pos) (tMkO (He.ga X.K x) (spXi X.K x f) [] (tCons te tNil)) := by
  obtain ⟨fd, ps, F, b⟩ := c.ex
  exact pmk_oex (CX := CX0) (p := p) (pos := pos) c.c.oex c.c.ini c.c.fn F (hr.mono hk) b .nil L2.pass0 hg c.g (pa_cons he pa_nil hs) hdb hs hpl
/-- raise x() -/
theorem ps_raise0 {W : WX} {rp : Pos} (K : PySem.W.Frag) (hK : X.K = K) {bmB : List Value} {B newId initId : String} (F : ExcBaseFacts B newId initId bmB) (c : PySem.W.excIn X.K (He.ga X.K x) bmB newId = true ∧ PySem.W.keepIn X.K (.ref (He.ga X.K x)) = true ∧ PySem.W.subIn X.K (.ref (He.ga X.K x)) (.type "BaseException") = some true ∧ PySem.W.typeIn X.K (.ref (He.ga X.K x)) = some (.type "type"))
    (g : X.mg x = some (.ref (He.ga X.K x))) (hc : X.calm = true) (tk : Takes X W) (hg : Gl X x := by rfl) (hdb : (x == ("__debug__" : Str)) = false := by decide) : PS X (.Raise (some (.Call (.Name x p) [] [] pos)) none rp) (fun _ σ H => W (.ref (He.ga K x)) none σ H) := by
  subst hK
  exact ps_raise hc tk (pmk_own0 F c.1 g c.2.1 (raises_own c.2.2.1 c.2.2.2) hg hdb)
/-- .. what is to be shown then -/
theorem xi_raised {K : PySem.W.Frag} {x f : Str} {H : Hp} {v : V} {Q : XK} (g : ∀ d, H d = none → Q (.ref (He.ga K x)) (some d) (upd H d (.xd [(f, v)]))) : [v].length ≤ 1000 ∧ ∀ a, H a = none → spXi K x f (.ref a :: ([v] ++ [])) (upd H a (exo a (He.ga K x) none))
    (fun u H2 => u = .non ∧ ∃ (d : Addr) (fs : List (Str × V)), H2 a = some (exo a (He.ga K x) (some d)) ∧ H2 d = some (exd d fs) ∧ H d = none ∧ Q (.ref (He.ga K x)) (some d) (upd (del H2 a) d (.xd fs))) (fun _ _ _ => False) := by
  refine ⟨by show 1 ≤ 1000; decide, ?_⟩
  intro a ha
  refine xi_made ?_
  intro d hd hne
  refine ⟨rfl, d, [(f, v)], upd_same, ?_, hd, ?_⟩
  · rw [upd_ne hne, upd_same]
  · have e : upd (del (upd (upd H d (exd d [(f, v)])) a (exo a (He.ga K x) (some d))) a) d (.xd [(f, v)]) = upd H d (.xd [(f, v)]) := by
      funext b
      by_cases hb : b = d
      · rw [hb, upd_same, upd_same]
      · rw [upd_ne hb, upd_ne hb]
        by_cases hc : b = a
        · rw [hc, del_same, ha]
        · rw [del_ne hc, upd_ne hc, upd_ne hb]
    rw [e]
    exact g d hd
/-- a reading may be weakened behind the expression -/
def tUp (te : TE) : TE := fun σ H Q => ∃ R : VK, te σ H R ∧ ∀ v H1, R v H1 → Q v H1
theorem pe_up (he : PE X e te) : PE X e (tUp te) := by
  refine ⟨?_⟩
  rintro pins s σ H Q I ⟨R, h, i⟩
  refine wpAny_mono (he.run pins s σ H R I h) ?_ (fun _ _ z => z)
  rintro u s1 ⟨v, H1, J, r, z⟩
  exact ⟨v, H1, J, r, i v H1 z⟩
theorem ps_raiseX {W : WX} {rp : Pos} (K : PySem.W.Frag) (hK : X.K = K) (c : Xi X.prog X.w X.K X.mg X.base k x f) (hc : X.calm = true) (tk : Takes X W) (hr : Room j X.A) (he : PE X e te) (hs : starEach [e] X.env = (false, eval e X.env) :: starEach [] X.env := by rfl) (hpl : (backTo pos (starEach [] X.env)).any (·.1) = false := by rfl) (hk : k + 1 ≤ j := by decide)
    (hg : Gl X x := by rfl) (hdb : (x == ("__debug__" : Str)) = false := by decide) : PS X (.Raise (some (.Call (.Name x p) [e] [] pos)) none rp) (fun _ σ H => te σ H fun v H1 => ∀ d, H1 d = none → W (.ref (He.ga K x)) (some d) σ (upd H1 d (.xd [(f, v)]))) := by
  subst hK
  have r := ps_raise (pos := rp) hc tk (pmk_x (p := p) (pos := pos) c hr (pe_up he) hs hpl hk hg hdb)
  refine ⟨?_⟩
  intro pins s σ H D I h
  refine r.run pins s σ H D I ⟨_, h, ?_⟩
  intro v H1 z
  exact xi_raised (Q := fun cls d H' => W cls d σ H') z
/-- x(e), as a value -/
theorem pe_x (c : Xi X.prog X.w X.K X.mg X.base k x f) (hr : Room j X.A) (he : PE X e te) (hs : starEach [e] X.env = (false, eval e X.env) :: starEach [] X.env := by rfl) (hpl : (backTo pos (starEach [] X.env)).any (·.1) = false := by rfl) (hk : k + 1 ≤ j := by decide) (hg : Gl X x := by rfl)
    (hdb : (x == ("__debug__" : Str)) = false := by decide) :
    PE X (.Call (.Name x p) [e] [] pos) (fun σ H Q => te σ H fun v H1 => ∀ a d, H1 a = none → H1 d = none → d ≠ a → Q (.ref a) (upd (upd H1 d (exd d [(f, v)])) a (exo a (He.ga X.K x) (some d)))) := by
  obtain ⟨fd, ps, F, bd⟩ := c.ex
  obtain ⟨nm, q, N, bs, bm, sn, sub, ab, col, dd, k0, k1, k2, k3, k5, hC, hbm⟩ := c.c.oex.cls
  refine ⟨?_⟩
  intro pins s σ H Q I h
  refine wpAny_Call_Name_kw (ld_glob I hg c.g ?_ hdb)
  refine PySem.W.callWith_K (h₀ := X.base) I.ok.mod.kin c.c.oex.kC ?_ hs hpl
  rw [hs]
  refine Calls.spliced_cons (thn (he.run pins s σ H _ I h) ?_)
  rintro u s1 ⟨v, H1, I1, r1, q1⟩
  refine Calls.spliced_nil ⟨I1.kIn, ?_⟩
  show wpAny _ _ (call (.ref (He.ga X.K x)) [u]) _ _ _
  obtain ⟨hp, g, dr, tk, os⟩ := s1
  let h2 := (hp.push (PySem.W.kdv_tup [u])).push (PySem.HandSPX.excO (He.ga X.K x) hp.objs.size)
  have le : hp.objs.size ≤ hp.objs.size + 1 := Nat.le_succ _
  have kk : ∀ b o, hp.get? b = some o → h2.get? b = some o := by
    intro b o e
    exact Heap.get?_push_of_some _ (Heap.get?_push_of_some _ e)
  have hget : h2.get? (hp.objs.size + 1) = some (PySem.HandSPX.excO (He.ga X.K x) hp.objs.size) := by
    show ((hp.push (PySem.W.kdv_tup [u])).push (PySem.HandSPX.excO (He.ga X.K x) hp.objs.size)).get? (hp.objs.size + 1) = _
    heap_get
  have I2 : Inv X pins σ (upd H1 (hp.objs.size + 1) (exo (hp.objs.size + 1) (He.ga X.K x) none)) ⟨h2, g, dr, tk, os⟩ := I1.laid (t' := tk) kk le (exo_ok hget)
  have rv : Vals [V.ref (hp.objs.size + 1), v] [Value.ref (hp.objs.size + 1), u] := .cons rfl (.cons r1 .nil)
  have want : spXi X.K x f [V.ref (hp.objs.size + 1), v] (upd H1 (hp.objs.size + 1) (exo (hp.objs.size + 1) (He.ga X.K x) none)) (fun z H2 => z = .non ∧ Q (.ref (hp.objs.size + 1)) H2) (fun _ _ _ => False) :=
    xi_made fun d hd hne => ⟨rfl, q1 _ d (I1.hok.fresh le) hd hne⟩
  have two : [Value.ref (hp.objs.size + 1), u].length = ps.length := by
    rw [← rv.length]
    exact F.len _ _ _ _ want
  have b2 := bd ⟨h2, g, dr, tk, os⟩ [Value.ref (hp.objs.size + 1), u] I2.kIn (by rw [List.append_nil]; exact two)
  rw [List.append_nil] at b2
  refine wpAny_call (PySem.HandSPX.call_own PySem.F.excBase_ValueError (fun Y => PySem.HandSPX.refsVE_contains Y bm hbm) (I1.kIn _ _ hC) (PySem.W.looks_findIn I1.kIn c.c.ini) (fun self => PySem.W.bind_fn I1.kIn self c.c.fn) (by rw [sizeLine_eq]; show 1 ≤ 16777216; decide) ?_)
  refine codeAny_mono (F.run _ X.stack _ _ ⟨[Value.ref (hp.objs.size + 1), u], []⟩ _ _ _ (fun _ _ _ => False) ((hr.mono hk).make (He.ga X.K x) [u] []) (I2.env0.make (He.ga X.K x) [u] []) b2 rv want) ?_
  intro r s3 z
  cases r with
  | error er => exact z.elim
  | ok fl =>
    cases fl with
    | ret y =>
      obtain ⟨v4, H4, J, r4, e4, q4⟩ := I2.after z
      subst e4
      cases (r4 : y = Value.none)
      exact ⟨rfl, .ref (hp.objs.size + 1), H4, J, rfl, q4⟩
    | next => exact z.elim
    | brk => exact z.elim
    | cont => exact z.elim
end

end M

set_option Elab.async false
set_option linter.all false
set_option maxRecDepth 100000
set_option maxHeartbeats 2000000
namespace M
open PySem PySem.Spec PyProof.Rows L2

/-! ### calls and items, and their lines -/
def callD (c : Str × Int) : PyData := .tuple [.str c.1, .int c.2]
def CallOk (c : Str × Int) : Prop := NameOk c.1 ∧ 0 ≤ c.2 ∧ c.2 ≤ 8
inductive Itm where
  | step (h : Int) | call (h : Int) (c : Str × Int)
def itemD : Itm → PyData
  | .step h => .tuple [.str "step", .int h]
  | .call h c => .tuple [.str "call", .int h, callD c]
def ItemOk : Itm → Prop
  | .step h => 0 ≤ h ∧ h ≤ 1
  | .call h c => (0 ≤ h ∧ h ≤ 1) ∧ CallOk c
/-- a number of one digit -/
def dg (i : Int) : Str := ⟨#[48 + i.toNat]⟩
def callL (c : Str × Int) : Str := c.1 ++ (" " : Str) ++ dg c.2
def itemL : Itm → Str
  | .step h => ("step " : Str) ++ dg h
  | .call h c => ("call " : Str) ++ dg h ++ (" " : Str) ++ callL c
theorem dig_str {i : Int} (h : 0 ≤ i ∧ i ≤ 9) : Str.ofString (toString i) = dg i := by
  obtain ⟨k, rfl⟩ : ∃ k : _root_.Fin 10, i = ((k.val : Nat) : Int) := ⟨⟨i.toNat, by omega⟩, by show i = ((i.toNat : Nat) : Int); omega⟩
  revert k
  decide +kernel
theorem dig_log {i : Int} (h : 0 ≤ i ∧ i ≤ 9) : i.natAbs.log2 < 1920 := by
  obtain ⟨k, rfl⟩ : ∃ k : _root_.Fin 10, i = ((k.val : Nat) : Int) := ⟨⟨i.toNat, by omega⟩, by show i = ((i.toNat : Nat) : Int); omega⟩
  revert k
  decide +kernel
theorem dig_int {i : Int} (h : 0 ≤ i ∧ i ≤ 9) : PySem.intText? (dg i) = some i := by
  obtain ⟨k, rfl⟩ : ∃ k : _root_.Fin 10, i = ((k.val : Nat) : Int) := ⟨⟨i.toNat, by omega⟩, by show i = ((i.toNat : Nat) : Int); omega⟩
  revert k
  decide +kernel
theorem tl_dg (i : Int) : TL.tl (dg i) = [48 + i.toNat] := rfl
theorem len_dg (i : Int) : (dg i).length = 1 := rfl
theorem tl_len (s : Str) : s.length = (TL.tl s).length := TL.len_tl s
theorem len_app (a b : Str) : (a ++ b).length = a.length + b.length := by rw [tl_len, TL.tl_append, List.length_append, ← tl_len, ← tl_len]
theorem tl_sp : TL.tl (" " : Str) = [32] := by decide +kernel
theorem tl_nl : TL.tl ("\n" : Str) = [10] := by decide +kernel
theorem tl_step : TL.tl ("step" : Str) = [115, 116, 101, 112] := by decide +kernel
theorem tl_call : TL.tl ("call" : Str) = [99, 97, 108, 108] := by decide +kernel
theorem tl_step_ : TL.tl ("step " : Str) = [115, 116, 101, 112, 32] := by decide +kernel
theorem tl_call_ : TL.tl ("call " : Str) = [99, 97, 108, 108, 32] := by decide +kernel
theorem empty_app (a : Str) : Str.empty ++ a = a := TL.ext_tl (by rw [TL.tl_append]; rfl)
/-- words with blanks between -/
def wordsL : Itm → List Str
  | .step h => ["step", dg h]
  | .call h c => ["call", dg h, c.1, dg c.2]
theorem callL_words (c : Str × Int) : callL c = Txt.join (" " : Str) [c.1, dg c.2] := TL.ext_tl (by
  rw [TL.join_eq, TL.tl_join]
  show TL.tl (c.1 ++ (" " : Str) ++ dg c.2) = TL.tl c.1 ++ (TL.tl (" " : Str) ++ TL.tl (dg c.2))
  rw [TL.tl_append, TL.tl_append, List.append_assoc])
theorem itemL_words (t : Itm) : itemL t = Txt.join (" " : Str) (wordsL t) := TL.ext_tl (by
  rw [TL.join_eq, TL.tl_join]
  cases t with
  | step h =>
    show TL.tl (("step " : Str) ++ dg h) = TL.tl ("step" : Str) ++ (TL.tl (" " : Str) ++ TL.tl (dg h))
    rw [TL.tl_append, tl_step_, tl_step, tl_sp]
    rfl
  | call h c =>
    show TL.tl (("call " : Str) ++ dg h ++ (" " : Str) ++ (c.1 ++ (" " : Str) ++ dg c.2)) = TL.tl ("call" : Str) ++ (TL.tl (" " : Str) ++ (TL.tl (dg h) ++ (TL.tl (" " : Str) ++ (TL.tl c.1 ++ (TL.tl (" " : Str) ++ TL.tl (dg c.2))))))
    simp only [TL.tl_append, tl_call_, tl_call, tl_sp, List.append_assoc]
    rfl)
theorem name_free {s : Str} (h : NameOk s) {x : Nat} (hx : x < 97) : x ∉ TL.tl s := fun hm => by
  have := h.2.2 x hm
  omega
theorem dg_free {i : Int} (h : 0 ≤ i ∧ i ≤ 8) {x : Nat} (hx : x < 48) : x ∉ TL.tl (dg i) := fun hm => by
  rw [tl_dg, List.mem_singleton] at hm
  omega
theorem sp_all : (" " : Str).cps.all (· < 256) = true := by decide +kernel
theorem nl_all : ("\n" : Str).cps.all (· < 256) = true := by decide +kernel
theorem split_call {c : Str × Int} (h : CallOk c) : Txt.split (callL c) (" " : Str) = [c.1, dg c.2] := by
  rw [callL_words]
  refine TL.split_join tl_sp sp_all (by simp) fun p hp => ?_
  rcases List.mem_cons.mp hp with rfl | hp
  · exact name_free h.1 (by decide)
  · rw [List.mem_singleton.mp hp]
    exact dg_free h.2 (by decide)
theorem split_item {t : Itm} (h : ItemOk t) : Txt.split (itemL t) (" " : Str) = wordsL t := by
  rw [itemL_words]
  cases t with
  | step hd =>
    refine TL.split_join tl_sp sp_all (by simp [wordsL]) fun p hp => ?_
    rcases List.mem_cons.mp hp with rfl | hp
    · rw [tl_step]; decide
    · rw [List.mem_singleton.mp hp]
      exact dg_free ⟨h.1, by have := h.2; omega⟩ (by decide)
  | call hd c =>
    refine TL.split_join tl_sp sp_all (by simp [wordsL]) fun p hp => ?_
    rcases List.mem_cons.mp hp with rfl | hp
    · rw [tl_call]; decide
    · rcases List.mem_cons.mp hp with rfl | hp
      · exact dg_free ⟨h.1.1, by have := h.1.2; omega⟩ (by decide)
      · rcases List.mem_cons.mp hp with rfl | hp
        · exact name_free h.2.1 (by decide)
        · rw [List.mem_singleton.mp hp]
          exact dg_free h.2.2 (by decide)
theorem callL_line {c : Str × Int} (h : CallOk c) : 10 ∉ TL.tl (callL c) ∧ 1 ≤ (callL c).length ∧ (callL c).length ≤ 10 := by
  have n1 := name_free h.1 (x := 10) (by decide)
  have n2 := dg_free h.2 (x := 10) (by decide)
  refine ⟨?_, ?_⟩
  · unfold callL
    rw [TL.tl_append, TL.tl_append, tl_sp]
    intro hm
    rcases List.mem_append.mp hm with hm | hm
    · rcases List.mem_append.mp hm with hm | hm
      · exact n1 hm
      · exact absurd hm (by decide)
    · exact n2 hm
  · unfold callL
    have l1 : (" " : Str).length = 1 := by decide +kernel
    have a := h.1.1
    have b := h.1.2.1
    rw [len_app, len_app, len_dg, l1]
    omega
theorem itemL_line {t : Itm} (h : ItemOk t) : 10 ∉ TL.tl (itemL t) ∧ 1 ≤ (itemL t).length ∧ (itemL t).length ≤ 20 := by
  have l1 : (" " : Str).length = 1 := by decide +kernel
  cases t with
  | step hd =>
    have n2 := dg_free (i := hd) ⟨h.1, by have := h.2; omega⟩ (x := 10) (by decide)
    have l5 : ("step " : Str).length = 5 := by decide +kernel
    refine ⟨?_, ?_⟩
    · unfold itemL
      rw [TL.tl_append, tl_step_]
      intro hm
      rcases List.mem_append.mp hm with hm | hm
      · exact absurd hm (by decide)
      · exact n2 hm
    · unfold itemL
      rw [len_app, len_dg, l5]
      decide
  | call hd c =>
    have n2 := dg_free (i := hd) ⟨h.1.1, by have := h.1.2; omega⟩ (x := 10) (by decide)
    obtain ⟨n3, l3, l4⟩ := callL_line h.2
    have l5 : ("call " : Str).length = 5 := by decide +kernel
    refine ⟨?_, ?_⟩
    · unfold itemL
      rw [TL.tl_append, TL.tl_append, TL.tl_append, tl_call_, tl_sp]
      intro hm
      rcases List.mem_append.mp hm with hm | hm
      · rcases List.mem_append.mp hm with hm | hm
        · rcases List.mem_append.mp hm with hm | hm
          · exact absurd hm (by decide)
          · exact n2 hm
        · exact absurd hm (by decide)
      · exact n3 hm
    · unfold itemL
      rw [len_app, len_app, len_app, len_dg, l5, l1]
      omega
theorem callD_noL (c : Str × Int) : NoL (callD c) := .tup fun d h => by
  simp at h
  rcases h with rfl | rfl
  · exact .str _
  · exact .int _
theorem itemD_noL (t : Itm) : NoL (itemD t) := by
  cases t with
  | step h =>
    refine .tup fun d hd => ?_
    simp at hd
    rcases hd with rfl | rfl
    · exact .str _
    · exact .int _
  | call h c =>
    refine .tup fun d hd => ?_
    simp at hd
    rcases hd with rfl | rfl | rfl
    · exact .str _
    · exact .int _
    · exact callD_noL c
section
variable {P : Program} {w : World} {K : PySem.W.Frag} {mg : Str → Option Value} {base : Heap}
def spNameL : Sp := fun vs H Q _ => ∃ (p : Addr), vs = [.ref p] ∧ PoolAt H p ∧ ∀ (s : Str) (H' : Hp), But p H H' → PoolAt H' p → NameOk s → Q (.str s) H'
theorem ca_l_name (T : Txt w K mg) : Ca P w K mg base 2 "_law_name" (spNameL) := by
  refine ca_of (N := ["_law_pool_here", "_law_letters", "_law_turn"]) (ps := ["_law_pool_here"]) T.f_l_name T.g_law_name ⟨rfl, rfl, rfl, by decide +kernel, rfl, by decide +kernel, by decide +kernel⟩ (fun _ _ _ _ _ _ us hl => match us, hl with | [_], _ => rfl)
    (fun vs H Q E h => by obtain ⟨p, rfl, hp, q⟩ := h; rfl) (fun cdv A outer s H vs Q E hr h => ?_)
  have nd : (["_law_pool_here", "_law_letters", "_law_turn"] : List Str).Nodup := by decide +kernel
  obtain ⟨p, rfl, hp, q⟩ := h
  refine ⟨_, (pss_cons (ps_set (i := 1) nd rfl (.inr rfl) pe_str)
      (pss_one (ps_ret (pe_join pe_str (pe_lc (own := [("_law_turn", 2)]) (tt := tYes) rfl nd (pi_range1 rfl T.b_range (pa_cons (pe_op op_add pe_int (pe_ca (ca_l_draw T) hr (pa_cons (pv 0) (pa_cons pe_int pa_nil)))) pa_nil)) (blkOk_by (N := ["_law_pool_here", "_law_letters", "_law_turn"]) (sc := defScope s_l_name) (by decide +kernel)) (fun _ _ _ _ _ => pg_name (i := 2) nd rfl (.inl rfl)) (fun _ _ _ _ _ => pts_nil) (fun _ _ _ _ _ => pe_ix ix_str (pv 1) (pe_ca (ca_l_draw T) hr (pa_cons (pv 0) (pa_cons pe_int pa_nil))) (fun _ _ => rfl))))))), ?_⟩
  refine ⟨⟨_, rfl⟩, _, rfl, p, 8, rfl, hp, by omega, fun m H2 b2 p2 hm => ⟨_, _, rfl, rfl, _, rfl, by omega, by omega, fun D nD => ?_⟩⟩
  have nDp := pool_nl p2 nD
  refine it_any (n := (1 + m).toNat) walk_range (fun i J => ∃ ss : List Str, But p H2 J ∧ PoolAt J p ∧ J D = some (.lst (ss.map V.str)) ∧ ss.length = i ∧ ∀ s ∈ ss, ∃ c, s = ⟨#[c]⟩ ∧ 97 ≤ c ∧ c ≤ 122) ⟨[], same_but (same_new nD), p2.same (same_new nD), upd_same, rfl, fun s h => by cases h⟩ (fun _ _ _ _ => trivial) ?_ ?_
  · rintro j z J0 J hj ⟨ss, bj, pj, hD, el, hss⟩ ⟨rfl, rfl⟩
    refine ⟨rfl, _, rfl, _, rfl, p, 26, rfl, pj, by omega, fun c J2 b6 p6 hc => ?_⟩
    have hat := let26 hc
    have hD2 := b6 _ _ nDp hD
    have bb : But D J2 (upd J2 D (.lst (ss.map V.str ++ [.str ⟨#[97 + c.toNat]⟩]))) := But.upd
    refine ⟨_, c, 97 + c.toNat, rfl, rfl, (by decide +kernel), hat, ss.map V.str, hD2, by rw [List.length_map, sizeLine_eq]; omega, ss ++ [⟨#[97 + c.toNat]⟩], fun a o h e => bb _ _ (ne_of_none e nD) (b6 _ _ h (bj _ _ h e)), p6.but (Ne.symm nDp) bb, by rw [List.map_append]; exact upd_same, by simp [el], fun s hs => ?_⟩
    rcases List.mem_append.mp hs with hs | hs
    · exact hss s hs
    · rw [List.mem_singleton.mp hs]
      exact ⟨_, rfl, by omega, by omega⟩
  · rintro H3 ⟨ss, bj, pj, hD, el, hss⟩
    obtain ⟨j1, j2⟩ := join_letters hss
    refine ⟨_, D, ss, rfl, rfl, .inl (.of hD), ?_, ?_⟩
    · have : (ss.map (·.length)).sum ≤ ss.length := by
        clear hD el j1 j2
        induction ss with
        | nil => exact Nat.le_refl _
        | cons s r ih =>
          obtain ⟨c, rfl, _⟩ := hss s List.mem_cons_self
          have := ih fun x hx => hss x (List.mem_cons_of_mem _ hx)
          rw [List.map_cons, List.sum_cons, List.length_cons]
          show 1 + _ ≤ _
          omega
      have e0 : ("" : Str).length = 0 := by decide +kernel
      rw [e0]
      omega
    · exact q _ H3 (b2.trans bj) pj ⟨by rw [str_len, j1]; omega, by rw [str_len, j1]; omega, j2⟩
def spCallD (K : PySem.W.Frag) : Sp := fun vs H Q _ => ∃ (p : Addr), vs = [.ref p] ∧ PoolAt H p ∧ ∀ (t : Addr) (c : Str × Int) (H' : Hp), But p H H' → PoolAt H' p → Dp K H' (.ref t) (callD c) → CallOk c → Q (.ref t) H'
theorem ca_l_call (T : Txt w K mg) : Ca P w K mg base 3 "_law_call" (spCallD K) := by
  refine ca_of (N := ["_law_pool_here"]) (ps := ["_law_pool_here"]) T.f_l_call T.g_law_call ⟨rfl, rfl, rfl, by decide +kernel, rfl, by decide +kernel, by decide +kernel⟩ (fun _ _ _ _ _ _ us hl => match us, hl with | [_], _ => rfl)
    (fun vs H Q E h => by obtain ⟨p, rfl, hp, q⟩ := h; rfl) (fun cdv A outer s H vs Q E hr h => ?_)
  have nd : (["_law_pool_here"] : List Str).Nodup := by decide +kernel
  obtain ⟨p, rfl, hp, q⟩ := h
  refine ⟨_, (pss_one (ps_ret (pe_tup (pa_cons (pe_ca (ca_l_name T) hr (pa_cons (pv 0) pa_nil)) (pa_cons (pe_ca (ca_l_draw T) hr (pa_cons (pv 0) (pa_cons pe_int pa_nil))) pa_nil))))), ?_⟩
  refine ⟨_, rfl, p, rfl, hp, fun s H1 b1 p1 ok => ⟨_, rfl, p, 9, rfl, p1, by omega, fun a H2 b2 p2 ha => ⟨(by show 2 ≤ sizeLine; decide), fun t nt => ?_⟩⟩⟩
  exact q t (s, a) _ ((b1.trans b2).trans (same_but (same_new nt))) (p2.same (same_new nt)) (.tup (.of upd_same) (.cons (.str _) (.cons (.int _) .nil))) ⟨ok, ha.1, by show a ≤ 8; omega⟩
def spItemDr (K : PySem.W.Frag) : Sp := fun vs H Q _ => ∃ (p : Addr), vs = [.ref p] ∧ PoolAt H p ∧ ∀ (t : Addr) (c : Itm) (H' : Hp), But p H H' → PoolAt H' p → Dp K H' (.ref t) (itemD c) → ItemOk c → Q (.ref t) H'
theorem ca_l_item (T : Txt w K mg) : Ca P w K mg base 4 "_law_item" (spItemDr K) := by
  refine ca_of (N := ["_law_pool_here", "_law_hand"]) (ps := ["_law_pool_here"]) T.f_l_item T.g_law_item ⟨rfl, rfl, rfl, by decide +kernel, rfl, by decide +kernel, by decide +kernel⟩ (fun _ _ _ _ _ _ us hl => match us, hl with | [_], _ => rfl)
    (fun vs H Q E h => by obtain ⟨p, rfl, hp, q⟩ := h; rfl) (fun cdv A outer s H vs Q E hr h => ?_)
  have nd : (["_law_pool_here", "_law_hand"] : List Str).Nodup := by decide +kernel
  obtain ⟨p, rfl, hp, q⟩ := h
  refine ⟨_, (pss_cons (ps_set (i := 1) nd rfl (.inl rfl) (pe_ca (ca_l_draw T) hr (pa_cons (pv 0) (pa_cons pe_int pa_nil))))
      (pss_cons (ps_if (pt_cmpR op_eq (pe_ca (ca_l_draw T) hr (pa_cons (pv 0) (pa_cons pe_int pa_nil))) pe_int (nomark _)) (pss_one (ps_ret (pe_tup (pa_cons pe_str (pa_cons (pv 1) pa_nil))))) pss_nil)
      (pss_one (ps_ret (pe_tup (pa_cons pe_str (pa_cons (pv 1) (pa_cons (pe_ca (ca_l_call T) hr (pa_cons (pv 0) pa_nil)) pa_nil)))))))), ?_⟩
  refine ⟨_, rfl, p, 2, rfl, hp, by omega, fun h H1 b1 p1 hh => ?_⟩
  refine ⟨_, rfl, p, 2, rfl, p1, by omega, fun k H2 b2 p2 hk => ⟨rfl, _, rfl, ?_⟩⟩
  have b12 := b1.trans b2
  by_cases c : k = 0
  · rw [decide_eq_true (show V.int k = V.int 0 from congrArg V.int c)]
    refine iteT ⟨_, rfl, (by show 2 ≤ sizeLine; decide), fun t nt => ?_⟩
    exact q t (.step h) _ (b12.trans (same_but (same_new nt))) (p2.same (same_new nt)) (.tup (.of upd_same) (.cons (.str _) (.cons (.int _) .nil))) ⟨hh.1, by show h ≤ 1; omega⟩
  · rw [decide_eq_false (show ¬ V.int k = V.int 0 from fun z => c (V.int.inj z))]
    refine iteF ⟨_, rfl, _, rfl, p, rfl, p2, fun u cl H3 b3 p3 hu ok => ⟨(by show 3 ≤ sizeLine; decide), fun t nt => ?_⟩⟩
    exact q t (.call h cl) _ ((b12.trans b3).trans (same_but (same_new nt))) (p3.same (same_new nt)) (.tup (.of upd_same) (.cons (.str _) (.cons (.int _) (.cons (dp_same (same_new nt) hu) .nil)))) ⟨⟨hh.1, by show h ≤ 1; omega⟩, ok⟩
def spCallLn (K : PySem.W.Frag) : Sp := fun vs H Q _ => ∃ (v : V) (c : Str × Int), vs = [v] ∧ Dp K H v (callD c) ∧ CallOk c ∧ Q (.str (callL c)) H
theorem ca_l_call_line (T : Txt w K mg) : Ca P w K mg base 1 "_law_call_line" (spCallLn K) := by
  refine ca_of (N := ["_law_call_here"]) (ps := ["_law_call_here"]) T.f_l_call_line T.g_law_call_line ⟨rfl, rfl, rfl, by decide +kernel, rfl, by decide +kernel, by decide +kernel⟩ (fun _ _ _ _ _ _ us hl => match us, hl with | [_], _ => rfl)
    (fun vs H Q E h => by obtain ⟨v, c, rfl, hv, ok, q⟩ := h; rfl) (fun cdv A outer s H vs Q E hr h => ?_)
  have nd : (["_law_call_here"] : List Str).Nodup := by decide +kernel
  obtain ⟨v, c, rfl, hv, ok, q⟩ := h
  refine ⟨_, (pss_one (ps_ret (pe_op op_add_str (pe_op op_add_str (pe_ix ix_tup (pv 0) pe_int (fun _ _ => rfl)) pe_str) (pe_callTy call_str_int (by rfl) T.b_str boot_str (pa_cons (pe_ix ix_tup (pv 0) pe_int (fun _ _ => rfl)) pa_nil))))), ?_⟩
  obtain ⟨t, x, y, rfl, ht, hx, hy⟩ := dp2 hv
  cases dp_str hx
  cases dp_int hy
  have l1 : (" " : Str).length = 1 := by decide +kernel
  have n8 := ok.1.2.1
  refine ⟨_, rfl, _, _, _, _, rfl, rfl, ht, at0, _, _, rfl, rfl, by rw [sizeLine_eq, l1]; omega, ?_⟩
  refine ⟨_, rfl, _, _, _, _, rfl, rfl, ht, at1, _, rfl, dig_log ⟨ok.2.1, by have := ok.2.2; omega⟩, ?_⟩
  rw [dig_str ⟨ok.2.1, by have := ok.2.2; omega⟩]
  exact ⟨_, _, rfl, rfl, by rw [sizeLine_eq, len_app, l1, len_dg]; omega, q⟩
def spItemLn (K : PySem.W.Frag) : Sp := fun vs H Q _ => ∃ (v : V) (c : Itm), vs = [v] ∧ Dp K H v (itemD c) ∧ ItemOk c ∧ Q (.str (itemL c)) H
theorem ca_l_item_line (T : Txt w K mg) : Ca P w K mg base 2 "_law_item_line" (spItemLn K) := by
  refine ca_of (N := ["_law_item_here"]) (ps := ["_law_item_here"]) T.f_l_item_line T.g_law_item_line ⟨rfl, rfl, rfl, by decide +kernel, rfl, by decide +kernel, by decide +kernel⟩ (fun _ _ _ _ _ _ us hl => match us, hl with | [_], _ => rfl)
    (fun vs H Q E h => by obtain ⟨v, c, rfl, hv, ok, q⟩ := h; rfl) (fun cdv A outer s H vs Q E hr h => ?_)
  have nd : (["_law_item_here"] : List Str).Nodup := by decide +kernel
  obtain ⟨v, c, rfl, hv, ok, q⟩ := h
  refine ⟨_, (pss_cons (ps_if (pt_cmpR op_eq (pe_ix ix_tup (pv 0) pe_int (fun _ _ => rfl)) pe_str (nomark _)) (pss_one (ps_ret (pe_op op_add_str pe_str (pe_callTy call_str_int (by rfl) T.b_str boot_str (pa_cons (pe_ix ix_tup (pv 0) pe_int (fun _ _ => rfl)) pa_nil))))) pss_nil)
      (pss_one (ps_ret (pe_op op_add_str (pe_op op_add_str (pe_op op_add_str pe_str (pe_callTy call_str_int (by rfl) T.b_str boot_str (pa_cons (pe_ix ix_tup (pv 0) pe_int (fun _ _ => rfl)) pa_nil))) pe_str) (pe_ca (ca_l_call_line T) hr (pa_cons (pe_ix ix_tup (pv 0) pe_int (fun _ _ => rfl)) pa_nil)))))), ?_⟩
  have l1 : (" " : Str).length = 1 := by decide +kernel
  have l5 : ("step " : Str).length = 5 := by decide +kernel
  have l6 : ("call " : Str).length = 5 := by decide +kernel
  cases c with
  | step h =>
    obtain ⟨t, x, y, rfl, ht, hx, hy⟩ := dp2 hv
    cases dp_str hx
    cases dp_int hy
    refine ⟨_, rfl, _, _, _, _, rfl, rfl, ht, at0, rfl, _, rfl, iteT ?_⟩
    refine ⟨_, rfl, _, _, _, _, rfl, rfl, ht, at1, _, rfl, dig_log ⟨ok.1, by have := ok.2; omega⟩, ?_⟩
    rw [dig_str ⟨ok.1, by have := ok.2; omega⟩]
    exact ⟨_, _, rfl, rfl, by rw [sizeLine_eq, l5, len_dg]; omega, q⟩
  | call h c =>
    obtain ⟨t, x, y, z, rfl, ht, hx, hy, hz⟩ := dp3 hv
    cases dp_str hx
    cases dp_int hy
    obtain ⟨_, n1, n2⟩ := callL_line ok.2
    refine ⟨_, rfl, _, _, _, _, rfl, rfl, ht, at0, rfl, _, rfl, iteF ?_⟩
    refine ⟨_, rfl, _, _, _, _, rfl, rfl, ht, at1, _, rfl, dig_log ⟨ok.1.1, by have := ok.1.2; omega⟩, ?_⟩
    rw [dig_str ⟨ok.1.1, by have := ok.1.2; omega⟩]
    refine ⟨_, _, rfl, rfl, by rw [sizeLine_eq, l6, len_dg]; omega, _, _, rfl, rfl, by rw [sizeLine_eq, len_app, l6, len_dg, l1]; omega, ?_⟩
    exact ⟨_, rfl, _, _, _, _, rfl, rfl, ht, at2, z, c, rfl, hz, ok.2, _, _, rfl, rfl, by rw [sizeLine_eq, len_app, len_app, l6, len_dg, l1]; omega, q⟩
end

end M

set_option Elab.async false
set_option linter.all false
set_option maxRecDepth 100000
set_option maxHeartbeats 2000000
namespace M
open PySem PySem.Spec PyProof.Rows L2

/-! ### a text cut at one sign -/
theorem spl1_ne (c : Nat) : ∀ (l acc : List Nat), TL.spl [c] 0 acc l ≠ []
  | [], acc => by
    rw [TL.spl_nil]
    exact List.cons_ne_nil _ _
  | x :: r, acc => by
    by_cases e : x = c
    · subst e
      rw [TL.spl_hit (by simp [TL.pre])]
      exact List.cons_ne_nil _ _
    · rw [TL.spl_miss (TL.pre_of_head [] r e)]
      exact spl1_ne c r _
theorem joinL_cons {s p : List Nat} {ps : List (List Nat)} (h : ps ≠ []) : TL.joinL s (p :: ps) = p ++ (s ++ TL.joinL s ps) := by
  cases ps with
  | nil => exact absurd rfl h
  | cons q r => rfl
theorem spl1_join (c : Nat) : ∀ (l acc : List Nat), TL.joinL [c] (TL.spl [c] 0 acc l) = acc ++ l
  | [], acc => by
    rw [TL.spl_nil, List.append_nil]
    rfl
  | x :: r, acc => by
    by_cases e : x = c
    · subst e
      rw [TL.spl_hit (by simp [TL.pre]), show ([x] : List Nat).length - 1 = 0 from rfl, joinL_cons (spl1_ne _ _ _), spl1_join x r []]
      rfl
    · rw [TL.spl_miss (TL.pre_of_head [] r e), spl1_join c r, List.append_assoc]
      rfl
theorem spl1_free (c : Nat) : ∀ (l acc : List Nat), c ∉ acc → ∀ p ∈ TL.spl [c] 0 acc l, c ∉ p
  | [], acc, h, p, hp => by
    rw [TL.spl_nil, List.mem_singleton] at hp
    rwa [hp]
  | x :: r, acc, h, p, hp => by
    by_cases e : x = c
    · subst e
      rw [TL.spl_hit (by simp [TL.pre])] at hp
      rcases List.mem_cons.mp hp with hp | hp
      · rwa [hp]
      · exact spl1_free x r [] (fun z => nomatch z) p hp
    · rw [TL.spl_miss (TL.pre_of_head [] r e)] at hp
      refine spl1_free c r _ (fun z => ?_) p hp
      rcases List.mem_append.mp z with z | z
      · exact h z
      · exact e (List.mem_singleton.mp z).symm
theorem spl1_sub (c : Nat) : ∀ (l acc : List Nat), ∀ p ∈ TL.spl [c] 0 acc l, p.length ≤ acc.length + l.length ∧ ∀ x ∈ p, x ∈ acc ∨ x ∈ l
  | [], acc, p, hp => by
    rw [TL.spl_nil, List.mem_singleton] at hp
    subst hp
    exact ⟨Nat.le_refl _, fun x hx => .inl hx⟩
  | y :: r, acc, p, hp => by
    by_cases e : y = c
    · subst e
      rw [TL.spl_hit (by simp [TL.pre])] at hp
      rcases List.mem_cons.mp hp with hp | hp
      · subst hp
        exact ⟨Nat.le_add_right _ _, fun x hx => .inl hx⟩
      · obtain ⟨h1, h2⟩ := spl1_sub y r [] p hp
        rw [List.length_nil] at h1
        refine ⟨by rw [List.length_cons]; omega, fun x hx => ?_⟩
        rcases h2 x hx with z | z
        · cases z
        · exact .inr (List.mem_cons_of_mem _ z)
    · rw [TL.spl_miss (TL.pre_of_head [] r e)] at hp
      obtain ⟨h1, h2⟩ := spl1_sub c r _ p hp
      rw [List.length_append, List.length_singleton] at h1
      refine ⟨by rw [List.length_cons]; omega, fun x hx => ?_⟩
      rcases h2 x hx with z | z
      · rcases List.mem_append.mp z with z | z
        · exact .inl z
        · exact .inr (by rw [List.mem_singleton.mp z]; exact List.mem_cons_self)
      · exact .inr (List.mem_cons_of_mem _ z)
theorem spl1_len (c : Nat) : ∀ (l acc : List Nat), (TL.spl [c] 0 acc l).length ≤ l.length + 1
  | [], acc => by
    rw [TL.spl_nil]
    exact Nat.le_refl _
  | y :: r, acc => by
    by_cases e : y = c
    · subst e
      rw [TL.spl_hit (by simp [TL.pre]), List.length_cons, List.length_cons]
      exact Nat.succ_le_succ (spl1_len y r [])
    · rw [TL.spl_miss (TL.pre_of_head [] r e), List.length_cons]
      exact Nat.le_succ_of_le (spl1_len c r _)
/-- a text cut at the one sign of y -/
theorem split_one {x y : Str} {c : Nat} (hy : TL.tl y = [c]) (h : y.cps.all (· < 256) = true) : (Txt.split x y).map TL.tl = TL.spl [c] 0 [] (TL.tl x) := by
  have e := TL.split_spl x y (by rw [hy]; exact List.cons_ne_nil _ _) (TL.kind_ok h)
  rwa [hy] at e
theorem split_back {x y : Str} {c : Nat} (hy : TL.tl y = [c]) (h : y.cps.all (· < 256) = true) : Txt.join y (Txt.split x y) = x := by
  refine TL.ext_tl ?_
  rw [TL.join_eq, TL.tl_join, split_one hy h, hy, spl1_join]
  rfl
theorem split_free {x y : Str} {c : Nat} (hy : TL.tl y = [c]) (h : y.cps.all (· < 256) = true) {p : Str} (hp : p ∈ Txt.split x y) : c ∉ TL.tl p ∧ p.length ≤ x.length ∧ ∀ z ∈ TL.tl p, z ∈ TL.tl x := by
  have m : TL.tl p ∈ TL.spl [c] 0 [] (TL.tl x) := by
    rw [← split_one hy h]
    exact List.mem_map_of_mem hp
  obtain ⟨h1, h2⟩ := spl1_sub c (TL.tl x) [] _ m
  refine ⟨spl1_free c _ [] (fun z => nomatch z) _ m, by rw [tl_len, tl_len x]; rw [List.length_nil] at h1; omega, fun z hz => ?_⟩
  rcases h2 z hz with q | q
  · cases q
  · exact q
theorem split_many {x y : Str} {c : Nat} (hy : TL.tl y = [c]) (h : y.cps.all (· < 256) = true) : 1 ≤ (Txt.split x y).length ∧ (Txt.split x y).length ≤ x.length + 1 := by
  have e : (Txt.split x y).length = (TL.spl [c] 0 [] (TL.tl x)).length := by rw [← split_one hy h, List.length_map]
  rw [e, tl_len]
  exact ⟨List.length_pos_iff.mpr (spl1_ne _ _ _), spl1_len _ _ _⟩

end M

set_option Elab.async false
set_option linter.all false
set_option maxRecDepth 100000
set_option maxHeartbeats 2000000
namespace M
open PySem PySem.Spec PyProof.Rows L2

/-! ### data of a known size and depth -/
def atomOk : PyData → Prop
  | .str s => s.length ≤ 1000000 ∧ PyData.strOk s = true
  | .none => True
  | .bool _ => True
  | .int _ => True
  | _ => False
def fit : Nat → PyData → Prop
  | 0, d => atomOk d
  | n + 1, .list ds => ds.length ≤ 100000 ∧ ∀ d ∈ ds, fit n d
  | n + 1, .tuple ds => ds.length ≤ 100000 ∧ ∀ d ∈ ds, fit n d
  | _ + 1, d => atomOk d
theorem atom_lay : ∀ {d : PyData}, atomOk d → d.canLay0 = true ∧ d.depth = 0 ∧ PyData.eqv d d = true
  | .str s, h => ⟨by rw [PyData.canLay0]; exact h.2, by rw [PyData.depth], by simp [PyData.eqv]⟩
  | .none, _ => ⟨by rw [PyData.canLay0], by rw [PyData.depth], by rw [PyData.eqv]⟩
  | .bool _, _ => ⟨by rw [PyData.canLay0], by rw [PyData.depth], by simp [PyData.eqv]⟩
  | .int _, _ => ⟨by rw [PyData.canLay0], by rw [PyData.depth], by simp [PyData.eqv]⟩
theorem fit_lay : ∀ {n : Nat} {d : PyData}, fit n d → d.canLay0 = true ∧ d.depth ≤ n ∧ PyData.eqv d d = true := by
  intro n
  induction n with
  | zero =>
    intro d h
    obtain ⟨a, b, c⟩ := atom_lay h
    exact ⟨a, by omega, c⟩
  | succ n ih =>
    intro d h
    have z : ∀ ds : List PyData, (∀ d ∈ ds, fit n d) → PyData.canLayAll0 ds = true ∧ PyData.depthAll ds ≤ n ∧ PyData.eqvAll ds ds = true := by
      intro ds
      induction ds with
      | nil => exact fun _ => ⟨by rw [PyData.canLayAll0], by rw [PyData.depthAll]; exact Nat.zero_le _, by rw [PyData.eqvAll]⟩
      | cons d r ih2 =>
        intro h
        obtain ⟨a1, a2, a3⟩ := ih (h d List.mem_cons_self)
        obtain ⟨b1, b2, b3⟩ := ih2 fun x hx => h x (List.mem_cons_of_mem _ hx)
        exact ⟨by rw [PyData.canLayAll0, a1, b1]; rfl, by rw [PyData.depthAll]; exact Nat.max_le.mpr ⟨a2, b2⟩, by rw [PyData.eqvAll, a3, b3]; rfl⟩
    cases d with
    | list ds =>
      obtain ⟨a, b, c⟩ := z ds h.2
      exact ⟨by rw [PyData.canLay0]; exact a, by rw [PyData.depth]; omega, by rw [PyData.eqv]; exact c⟩
    | tuple ds =>
      obtain ⟨a, b, c⟩ := z ds h.2
      exact ⟨by rw [PyData.canLay0]; exact a, by rw [PyData.depth]; omega, by rw [PyData.eqv]; exact c⟩
    | dict _ => exact h.elim
    | str s =>
      obtain ⟨a, b, c⟩ := atom_lay (d := .str s) h
      exact ⟨a, by omega, c⟩
    | none =>
      obtain ⟨a, b, c⟩ := atom_lay (d := .none) h
      exact ⟨a, by omega, c⟩
    | bool y =>
      obtain ⟨a, b, c⟩ := atom_lay (d := .bool y) h
      exact ⟨a, by omega, c⟩
    | int y =>
      obtain ⟨a, b, c⟩ := atom_lay (d := .int y) h
      exact ⟨a, by omega, c⟩
theorem fit_shaped {n : Nat} {d : PyData} (hn : n ≤ 60) (h : fit n d) : SeqAt.shaped d = true := by
  obtain ⟨a, b, _⟩ := fit_lay h
  unfold SeqAt.shaped
  rw [Bool.and_eq_true]
  exact ⟨a, decide_eq_true (by omega)⟩
theorem fit_str {n : Nat} {s : Str} (h : fit n (.str s)) : s.length ≤ 1000000 ∧ PyData.strOk s = true := by
  cases n <;> exact h
def isStr (x : Str) : PyData → Bool
  | .str s => s == x
  | _ => false
theorem eqv_str {d : PyData} {x : Str} : PyData.eqv d (.str x) = isStr x d := by
  cases d <;> simp [PyData.eqv, isStr]
/-! ### what is good -/
instance (s : Str) : Decidable (NameOk s) := by
  unfold NameOk
  infer_instance
def asName : PyData → Option Str
  | .str s => if NameOk s then some s else none
  | _ => none
def inR (lo hi : Int) : PyData → Bool
  | .int i => decide (lo ≤ i) && decide (i ≤ hi)
  | _ => false
def isTup (n : Int) : PyData → Bool
  | .tuple ds => decide ((ds.length : Int) = n)
  | _ => false
def asCall : PyData → Option (Str × Int)
  | .tuple [.str s, .int i] => if NameOk s ∧ 0 ≤ i ∧ i ≤ 8 then some (s, i) else none
  | _ => none
def asItem : PyData → Option Itm
  | .tuple [.str s, .int h] => if s = "step" ∧ 0 ≤ h ∧ h ≤ 1 then some (.step h) else none
  | .tuple [.str s, .int h, c] => if s = "call" ∧ 0 ≤ h ∧ h ≤ 1 then (asCall c).map (.call h) else none
  | _ => none
theorem asCall_ok {d : PyData} {c : Str × Int} (h : asCall d = some c) : d = callD c ∧ CallOk c := by
  unfold asCall at h
  split at h
  · split at h
    · rename_i o
      cases h
      exact ⟨rfl, o.1, o.2⟩
    · cases h
  · cases h
theorem asCall_of {c : Str × Int} (h : CallOk c) : asCall (callD c) = some c := if_pos ⟨h.1, h.2⟩
theorem asItem_ok {d : PyData} {t : Itm} (h : asItem d = some t) : d = itemD t ∧ ItemOk t := by
  unfold asItem at h
  split at h
  · split at h
    · rename_i o
      cases h
      obtain ⟨rfl, o⟩ := o
      exact ⟨rfl, o⟩
    · cases h
  · split at h
    · rename_i o
      obtain ⟨c, hc, rfl⟩ := Option.map_eq_some_iff.mp h
      obtain ⟨rfl, o2⟩ := asCall_ok hc
      obtain ⟨rfl, o⟩ := o
      exact ⟨rfl, o, o2⟩
    · cases h
  · cases h
theorem asItem_of {t : Itm} (h : ItemOk t) : asItem (itemD t) = some t := by
  cases t with
  | step i => exact if_pos ⟨rfl, h⟩
  | call i c =>
    show (if _ then (asCall (callD c)).map (Itm.call i) else none) = _
    rw [if_pos ⟨rfl, h.1⟩, asCall_of h.2]
    rfl
/-! ### defs that judge any data -/
theorem sign_gt {a c : Nat} (h : c < a) : (!decide (([c] : List Nat) < [a])) = false := by
  have : ([c] : List Nat) < [a] := by
    rw [List.cons_lt_cons_iff]
    exact .inl h
  rw [decide_eq_true this]
  rfl
theorem if_gt_of {c : Bool} {A B : Prop} (hc : c = false) (h : A) : if (!c) = true then A else B := by
  rw [hc]
  exact iteT h
theorem if_gt2_of {c : Bool} {A B : Prop} (hc : c = false) (h : B) : if c = true then A else B := by
  rw [hc]
  exact iteF h
namespace G
section
variable {P : Program} {w : World} {K : PySem.W.Frag} {mg : Str → Option Value} {base : Heap}
def spWithin (K : PySem.W.Frag) : Sp := fun vs H Q _ => ∃ (v : V) (d : PyData) (lo hi : Int), vs = [v, .int lo, .int hi] ∧ Dp K H v d ∧ Q (.bl (inR lo hi d)) H
theorem ca_is_within (T : Txt w K mg) : Ca P w K mg base 2 "is_within" (spWithin K) := by
  refine ca_of (N := ["value", "least", "greatest"]) (ps := ["value", "least", "greatest"]) T.f_is_within T.g_is_within ⟨rfl, rfl, rfl, by decide +kernel, rfl, by decide +kernel, by decide +kernel⟩ (fun _ _ _ _ _ _ us hl => match us, hl with | [_, _, _], _ => rfl)
    (fun vs H Q E h => by obtain ⟨v, d, lo, hi, rfl, hd, q⟩ := h; rfl) (fun cdv A outer s H vs Q E hr h => ?_)
  have nd : (["value", "least", "greatest"] : List Str).Nodup := by decide +kernel
  obtain ⟨v, d, lo, hi, rfl, hd, q⟩ := h
  refine ⟨_, (pss_one (ps_ret (pe_and (pe_ca (M.ca_is_integer T) hr (pa_cons (pv 0) pa_nil)) (pe_one (pe_chain op_le op_le (pv 1) (pv 0) (pv 2)))))), ?_⟩
  refine ⟨_, rfl, _, _, rfl, dp_kd hd, _, rfl, ?_⟩
  cases hd with
  | int i =>
    refine iteT ⟨_, rfl, _, rfl, _, _, rfl, rfl, _, rfl, ?_⟩
    have q : Q (.bl (decide (lo ≤ i) && decide (i ≤ hi))) H := q
    by_cases c : lo ≤ i
    · rw [decide_eq_true c] at q ⊢
      exact iteT ⟨_, rfl, _, _, rfl, rfl, q⟩
    · rw [decide_eq_false c] at q ⊢
      exact iteF q
  | _ => exact iteF q
def spTuple (K : PySem.W.Frag) : Sp := fun vs H Q _ => ∃ (v : V) (d : PyData) (n : Int), vs = [v, .int n] ∧ Dp K H v d ∧ Q (.bl (isTup n d)) H
theorem ca_is_tuple (T : Txt w K mg) : Ca P w K mg base 1 "is_tuple" (spTuple K) := by
  refine ca_of (N := ["value", "length"]) (ps := ["value", "length"]) T.f_is_tuple T.g_is_tuple ⟨rfl, rfl, rfl, by decide +kernel, rfl, by decide +kernel, by decide +kernel⟩ (fun _ _ _ _ _ _ us hl => match us, hl with | [_, _], _ => rfl)
    (fun vs H Q E h => by obtain ⟨v, d, n, rfl, hd, q⟩ := h; rfl) (fun cdv A outer s H vs Q E hr h => ?_)
  have nd : (["value", "length"] : List Str).Nodup := by decide +kernel
  obtain ⟨v, d, n, rfl, hd, q⟩ := h
  refine ⟨_, (pss_one (ps_ret (pe_and (pe_is .tuple T.b_isinstance (pv 0) T.b_tuple boot_tuple) (pe_one (pe_cmpR op_eq (pe_callB call_len_seq (by rfl) T.b_len PySem.boot_len (pa_cons (pv 0) pa_nil)) (pv 1) (nomark _)))))), ?_⟩
  have kd := dp_kd hd
  refine ⟨_, rfl, _, _, rfl, kd, _, rfl, ?_⟩
  cases hd with
  | tup h1 h2 =>
    refine iteT ⟨_, rfl, _, _, rfl, .inr h1, _, rfl, rfl, ?_⟩
    rename_i a xs ds
    have e : (decide (V.int (xs.length : Int) = V.int n)) = decide ((ds.length : Int) = n) := by rw [dps_len h2]; simp
    rw [e]
    exact q
  | _ => exact iteF q
def spName (K : PySem.W.Frag) : Sp := fun vs H Q _ => ∃ (v : V) (d : PyData), vs = [v] ∧ Dp K H v d ∧ (∀ s, d = .str s → s.length ≤ 1000000) ∧ Q (.bl (asName d).isSome) H
theorem ca_is_name (T : Txt w K mg) : Ca P w K mg base 1 "is_name" (spName K) := by
  refine ca_of (N := ["value", "letter"]) (ps := ["value"]) T.f_is_name T.g_is_name ⟨rfl, rfl, rfl, by decide +kernel, rfl, by decide +kernel, by decide +kernel⟩ (fun _ _ _ _ _ _ us hl => match us, hl with | [_], _ => rfl)
    (fun vs H Q E h => by obtain ⟨v, d, rfl, hd, hs, q⟩ := h; rfl) (fun cdv A outer s H vs Q E hr h => ?_)
  have nd : (["value", "letter"] : List Str).Nodup := by decide +kernel
  obtain ⟨v, d, rfl, hd, hs, q⟩ := h
  refine ⟨_, (pss_cons (ps_if (PW.pt (pw_or (pt_not (pt_val (pe_is .str T.b_isinstance (pv 0) T.b_str boot_str))) (pw_or1 (pt_not (pt_chain op_le op_le pe_int (pe_callB call_len_str (by rfl) T.b_len PySem.boot_len (pa_cons (pv 0) pa_nil)) (pe_gi T.i_LONGEST_NAME)))))) (pss_one (ps_ret pe_bl)) pss_nil)
      (pss_cons (ps_for PassesOwn.never rfl (pi_str (pv 0)) (pg_name (i := 1) nd rfl (.inl rfl)) (pss_one (ps_if (pt_not (pt_chain op_le_str op_le_str pe_str (pv 1) pe_str)) (pss_one (ps_ret pe_bl)) pss_nil)))
      (pss_one (ps_ret pe_bl)))), ?_⟩
  have kd := dp_kd hd
  refine ⟨_, rfl, _, _, rfl, kd, _, rfl, ?_⟩
  cases hd with
  | str s =>
    have q : Q (.bl (if NameOk s then some s else none).isSome) H := q
    have hs := hs s rfl
    refine iteF ⟨_, rfl, _, rfl, by rw [sizeLine_eq]; omega, _, _, rfl, rfl, _, rfl, ?_⟩
    by_cases c1 : 1 ≤ s.length
    · rw [decide_eq_true (show (1 : Int) ≤ (s.length : Int) by omega)]
      refine iteT ⟨_, _, rfl, rfl, _, rfl, ?_⟩
      by_cases c2 : s.length ≤ 8
      · rw [decide_eq_true (show (s.length : Int) ≤ 8 by omega)]
        refine iteF ⟨_, rfl, _, rfl, for_it (n := s.cps.size) walk_str (fun i σ' H' => ∃ x, σ' = [some (.str s), x] ∧ H' = H ∧ ∀ (j c : Nat), j < i → s.cps[j]? = some c → 97 ≤ c ∧ c ≤ 122) ⟨none, rfl, rfl, fun j c h => absurd h (Nat.not_lt_zero j)⟩ (fun _ _ _ _ _ => trivial) ?_ ?_⟩
        · rintro i x σ' H' H2 hi ⟨_, rfl, rfl, hall⟩ ⟨rfl, c, hc, rfl⟩
          have hm : c ∈ s.cps.toList := by
            rw [← Array.getElem?_toList] at hc
            exact List.mem_of_getElem? hc
          refine ⟨_, rfl, _, _, rfl, rfl, _, rfl, ?_⟩
          by_cases c3 : 97 ≤ c
          · refine (if_true_of (sign_le c3) ?_)
            refine ⟨_, _, rfl, rfl, _, rfl, ?_⟩
            by_cases c4 : c ≤ 122
            · refine if_not_of (sign_le c4) ⟨_, rfl, rfl, fun j c5 hj hc5 => ?_⟩
              rcases Nat.lt_or_eq_of_le (Nat.le_of_lt_succ hj) with hj | hj
              · exact hall j c5 hj hc5
              · rw [hj, hc] at hc5
                cases (Option.some.inj hc5)
                exact ⟨c3, c4⟩
            · rw [if_neg (fun z : NameOk s => c4 (z.2.2 c hm).2)] at q
              exact if_gt_of (sign_gt (c := 122) (a := c) (by omega)) q
          · rw [if_neg (fun z : NameOk s => c3 (z.2.2 c hm).1)] at q
            exact if_gt2_of (sign_gt (c := c) (a := 97) (by omega)) ⟨_, rfl, iteT q⟩
        · rintro σ' H' ⟨_, rfl, rfl, hall⟩
          rw [if_pos (show NameOk s from ⟨c1, c2, fun c hc => ?_⟩)] at q
          · exact q
          · obtain ⟨j, hj, e⟩ := List.mem_iff_getElem.mp hc
            refine hall j c (by simpa using hj) ?_
            rw [← Array.getElem?_toList, List.getElem?_eq_getElem hj, e]
      · rw [decide_eq_false (show ¬ (s.length : Int) ≤ 8 by omega)]
        rw [if_neg (fun z : NameOk s => c2 z.2.1)] at q
        exact iteT q
    · rw [decide_eq_false (show ¬ (1 : Int) ≤ (s.length : Int) by omega)]
      rw [if_neg (fun z : NameOk s => c1 z.1)] at q
      exact iteF ⟨_, rfl, iteT q⟩
  | _ => exact iteT q
end
end G

end M

set_option Elab.async false
set_option linter.all false
set_option maxRecDepth 100000
set_option maxHeartbeats 2000000
namespace M
open PySem PySem.Spec PyProof.Rows L2

theorem tup_len {n : Int} {d : PyData} (h : isTup n d = true) : ∃ ds, d = .tuple ds ∧ (ds.length : Int) = n := by
  cases d with
  | tuple ds => exact ⟨ds, rfl, of_decide_eq_true h⟩
  | _ => cases h
theorem two_of {α : Type} {l : List α} (h : (l.length : Int) = 2) : ∃ a b, l = [a, b] := by
  match l, h with
  | [a, b], _ => exact ⟨a, b, rfl⟩
  | [], h => exact absurd h (by decide : ¬ (((0 : Nat) : Int) = 2))
  | [a], h => exact absurd h (by decide : ¬ (((1 : Nat) : Int) = 2))
  | _ :: _ :: _ :: _, h =>
    rw [List.length_cons, List.length_cons, List.length_cons] at h
    omega
theorem three_of {α : Type} {l : List α} (h : (l.length : Int) = 3) : ∃ a b c, l = [a, b, c] := by
  match l, h with
  | [a, b, c], _ => exact ⟨a, b, c, rfl⟩
  | [], h => exact absurd h (by decide : ¬ (((0 : Nat) : Int) = 3))
  | [a], h => exact absurd h (by decide : ¬ (((1 : Nat) : Int) = 3))
  | [a, b], h => exact absurd h (by decide : ¬ (((2 : Nat) : Int) = 3))
  | _ :: _ :: _ :: _ :: _, h =>
    rw [List.length_cons, List.length_cons, List.length_cons, List.length_cons] at h
    omega
theorem asCall_two (a b : PyData) : (asCall (.tuple [a, b])).isSome = ((asName a).isSome && inR 0 8 b) := by
  cases a with
  | str s =>
    cases b with
    | int i =>
      show (if NameOk s ∧ 0 ≤ i ∧ i ≤ 8 then some (s, i) else none).isSome = ((if NameOk s then some s else none).isSome && (decide (0 ≤ i) && decide (i ≤ 8)))
      by_cases h : NameOk s
      · by_cases h2 : 0 ≤ i ∧ i ≤ 8
        · rw [if_pos ⟨h, h2⟩, if_pos h, decide_eq_true h2.1, decide_eq_true h2.2]
          rfl
        · rw [if_neg (fun z => h2 z.2), if_pos h]
          by_cases h3 : 0 ≤ i
          · rw [decide_eq_true h3, decide_eq_false (fun z => h2 ⟨h3, z⟩)]
            rfl
          · rw [decide_eq_false h3]
            rfl
      · rw [if_neg (fun z => h z.1), if_neg h]
        rfl
    | _ => exact (Bool.and_false _).symm
  | _ => rfl
theorem asCall_not {d : PyData} (h : isTup 2 d = false) : asCall d = none := by
  cases e : asCall d with
  | none => rfl
  | some c =>
    obtain ⟨rfl, _⟩ := asCall_ok e
    cases h
theorem fit_two {n : Nat} {a b : PyData} (h : fit n (.tuple [a, b])) : ∃ m, n = m + 1 ∧ fit m a ∧ fit m b := by
  cases n with
  | zero => exact h.elim
  | succ m => exact ⟨m, rfl, h.2 a List.mem_cons_self, h.2 b (List.mem_cons_of_mem _ List.mem_cons_self)⟩
theorem fit_three {n : Nat} {a b c : PyData} (h : fit n (.tuple [a, b, c])) : ∃ m, n = m + 1 ∧ fit m a ∧ fit m b ∧ fit m c := by
  cases n with
  | zero => exact h.elim
  | succ m => exact ⟨m, rfl, h.2 a List.mem_cons_self, h.2 b (List.mem_cons_of_mem _ List.mem_cons_self), h.2 c (List.mem_cons_of_mem _ (List.mem_cons_of_mem _ List.mem_cons_self))⟩
theorem asItem_two (a b : PyData) : (asItem (.tuple [a, b])).isSome = (isStr "step" a && inR 0 1 b) := by
  cases a with
  | str s =>
    cases b with
    | int i =>
      show (if s = "step" ∧ 0 ≤ i ∧ i ≤ 1 then some (Itm.step i) else none).isSome = ((s == "step") && (decide (0 ≤ i) && decide (i ≤ 1)))
      by_cases h : s = "step"
      · rw [beq_iff_eq.mpr h]
        by_cases h2 : 0 ≤ i ∧ i ≤ 1
        · rw [if_pos ⟨h, h2⟩, decide_eq_true h2.1, decide_eq_true h2.2]
          rfl
        · rw [if_neg (fun z => h2 z.2)]
          by_cases h3 : 0 ≤ i
          · rw [decide_eq_true h3, decide_eq_false (fun z => h2 ⟨h3, z⟩)]
            rfl
          · rw [decide_eq_false h3]
            rfl
      · rw [if_neg (fun z => h z.1), beq_eq_false_iff_ne.mpr h]
        rfl
    | _ => exact (Bool.and_false _).symm
  | _ => rfl
theorem asItem_three (a b c : PyData) : (asItem (.tuple [a, b, c])).isSome = (isStr "call" a && (inR 0 1 b && (asCall c).isSome)) := by
  cases a with
  | str s =>
    cases b with
    | int i =>
      show (if s = "call" ∧ 0 ≤ i ∧ i ≤ 1 then (asCall c).map (Itm.call i) else none).isSome = ((s == "call") && ((decide (0 ≤ i) && decide (i ≤ 1)) && (asCall c).isSome))
      by_cases h : s = "call"
      · rw [beq_iff_eq.mpr h]
        by_cases h2 : 0 ≤ i ∧ i ≤ 1
        · rw [if_pos ⟨h, h2⟩, decide_eq_true h2.1, decide_eq_true h2.2, Option.isSome_map]
          rfl
        · rw [if_neg (fun z => h2 z.2)]
          by_cases h3 : 0 ≤ i
          · rw [decide_eq_true h3, decide_eq_false (fun z => h2 ⟨h3, z⟩)]
            rfl
          · rw [decide_eq_false h3]
            rfl
      · rw [if_neg (fun z => h z.1), beq_eq_false_iff_ne.mpr h]
        rfl
    | _ =>
      show false = (_ && (false && _))
      rw [Bool.false_and, Bool.and_false]
  | _ => rfl
theorem asItem_not {d : PyData} (h : isTup 2 d = false) (h3 : isTup 3 d = false) : asItem d = none := by
  cases e : asItem d with
  | none => rfl
  | some t =>
    obtain ⟨rfl, _⟩ := asItem_ok e
    cases t with
    | step i => cases h
    | call i c => cases h3
/-! ### one digit -/
def digI (w : Str) : Option Int := match TL.tl w with
  | [c] => if 48 ≤ c ∧ c ≤ 57 then some ((c : Int) - 48) else none
  | _ => none
theorem digI_ok {w : Str} {i : Int} (h : digI w = some i) : w = dg i ∧ 0 ≤ i ∧ i ≤ 9 := by
  unfold digI at h
  split at h
  · rename_i c e
    split at h
    · rename_i o
      cases h
      refine ⟨TL.ext_tl ?_, by omega, by omega⟩
      rw [e, tl_dg]
      congr 1
      omega
    · cases h
  · cases h
theorem digI_dg {i : Int} (h : 0 ≤ i ∧ i ≤ 9) : digI (dg i) = some i := by
  unfold digI
  rw [tl_dg]
  show (if 48 ≤ 48 + i.toNat ∧ 48 + i.toNat ≤ 57 then some (((48 + i.toNat : Nat) : Int) - 48) else none) = some i
  rw [if_pos (by omega)]
  congr 1
  omega
theorem int_two : ∀ a : _root_.Fin 9, ∀ b : _root_.Fin 10, PySem.intText? (⟨#[49 + a.val, 48 + b.val]⟩ : Str) = some (((10 * (a.val + 1) + b.val : Nat) : Nat) : Int) := by decide +kernel
theorem int_three : ∀ a : _root_.Fin 9, ∀ b : _root_.Fin 10, ∀ c : _root_.Fin 10, PySem.intText? (⟨#[49 + a.val, 48 + b.val, 48 + c.val]⟩ : Str) = some (((100 * (a.val + 1) + 10 * b.val + c.val : Nat) : Nat) : Int) := by decide +kernel
namespace G
section
variable {P : Program} {w : World} {K : PySem.W.Frag} {mg : Str → Option Value} {base : Heap}
def spIsCall (K : PySem.W.Frag) : Sp := fun vs H Q _ => ∃ (v : V) (d : PyData) (n : Nat), vs = [v] ∧ Dp K H v d ∧ fit n d ∧ Q (.bl (asCall d).isSome) H
theorem ca_is_call (T : Txt w K mg) : Ca P w K mg base 3 "is_call" (spIsCall K) := by
  refine ca_of (N := ["value"]) (ps := ["value"]) T.f_is_call T.g_is_call ⟨rfl, rfl, rfl, by decide +kernel, rfl, by decide +kernel, by decide +kernel⟩ (fun _ _ _ _ _ _ us hl => match us, hl with | [_], _ => rfl)
    (fun vs H Q E h => by obtain ⟨v, d, n, rfl, hd, ft, q⟩ := h; rfl) (fun cdv A outer s H vs Q E hr h => ?_)
  have nd : (["value"] : List Str).Nodup := by decide +kernel
  obtain ⟨v, d, n, rfl, hd, ft, q⟩ := h
  refine ⟨_, (pss_one (ps_ret (pe_and (pe_ca (ca_is_tuple T) hr (pa_cons (pv 0) (pa_cons pe_int pa_nil))) (pe_and (pe_ca (ca_is_name T) hr (pa_cons (pe_ix ix_tup (pv 0) pe_int (fun _ _ => rfl)) pa_nil)) (pe_one (pe_ca (ca_is_within T) hr (pa_cons (pe_ix ix_tup (pv 0) pe_int (fun _ _ => rfl)) (pa_cons pe_int (pa_cons (pe_op op_sub (pe_gi T.i_MOST_CHOICES) pe_int) pa_nil))))))))), ?_⟩
  refine ⟨_, rfl, v, d, 2, rfl, hd, _, rfl, ?_⟩
  cases e : isTup 2 d with
  | false =>
    rw [asCall_not e] at q
    exact iteF q
  | true =>
    obtain ⟨ds, rfl, hl⟩ := tup_len e
    obtain ⟨a, b, rfl⟩ := two_of hl
    obtain ⟨t, x, y, rfl, ht, hx, hy⟩ := dp2 hd
    obtain ⟨m, rfl, fa, fb⟩ := fit_two ft
    rw [asCall_two] at q
    refine iteT ⟨_, rfl, _, _, _, _, rfl, rfl, ht, at0, x, a, rfl, hx, fun s es => (fit_str (n := m) (es ▸ fa)).1, _, rfl, ?_⟩
    cases e2 : (asName a).isSome with
    | false =>
      rw [e2] at q
      exact iteF q
    | true =>
      rw [e2] at q
      exact iteT ⟨_, rfl, _, _, _, _, rfl, rfl, ht, at1, _, _, rfl, rfl, y, b, 0, _, rfl, hy, q⟩
def spIsItem (K : PySem.W.Frag) : Sp := fun vs H Q _ => ∃ (v : V) (d : PyData) (n : Nat), vs = [v] ∧ Dp K H v d ∧ fit n d ∧ n ≤ 50 ∧ Q (.bl (asItem d).isSome) H
theorem ca_is_item (T : Txt w K mg) : Ca P w K mg base 4 "is_item" (spIsItem K) := by
  refine ca_of (N := ["value"]) (ps := ["value"]) T.f_is_item T.g_is_item ⟨rfl, rfl, rfl, by decide +kernel, rfl, by decide +kernel, by decide +kernel⟩ (fun _ _ _ _ _ _ us hl => match us, hl with | [_], _ => rfl)
    (fun vs H Q E h => by obtain ⟨v, d, n, rfl, hd, ft, hn, q⟩ := h; rfl) (fun cdv A outer s H vs Q E hr h => ?_)
  have nd : (["value"] : List Str).Nodup := by decide +kernel
  obtain ⟨v, d, n, rfl, hd, ft, hn, q⟩ := h
  refine ⟨_, (pss_cons (ps_if (PW.pt (pw_and (pt_val (pe_ca (ca_is_tuple T) hr (pa_cons (pv 0) (pa_cons pe_int pa_nil)))) (pw_and1 (pt_cmpR (op_eqD hr.units) (pe_ix ix_tup (pv 0) pe_int (fun _ _ => rfl)) pe_str (nomark _))))) (pss_one (ps_ret (pe_and (pe_ca (ca_is_within T) hr (pa_cons (pe_ix ix_tup (pv 0) pe_int (fun _ _ => rfl)) (pa_cons pe_int (pa_cons pe_int pa_nil)))) (pe_one (pe_ca (ca_is_call T) hr (pa_cons (pe_ix ix_tup (pv 0) pe_int (fun _ _ => rfl)) pa_nil)))))) pss_nil)
      (pss_one (ps_ret (pe_and (pe_ca (ca_is_tuple T) hr (pa_cons (pv 0) (pa_cons pe_int pa_nil))) (pe_and (pe_cmpR (op_eqD hr.units) (pe_ix ix_tup (pv 0) pe_int (fun _ _ => rfl)) pe_str (nomark _)) (pe_one (pe_ca (ca_is_within T) hr (pa_cons (pe_ix ix_tup (pv 0) pe_int (fun _ _ => rfl)) (pa_cons pe_int (pa_cons pe_int pa_nil)))))))))), ?_⟩
  have sc : SeqAt.shaped (.str "call") = true := by decide +kernel
  have ss : SeqAt.shaped (.str "step") = true := by decide +kernel
  refine ⟨_, rfl, v, d, 3, rfl, hd, _, rfl, ?_⟩
  cases e3 : isTup 3 d with
  | false =>
    refine iteF ⟨_, rfl, v, d, 2, rfl, hd, _, rfl, ?_⟩
    cases e2 : isTup 2 d with
    | false =>
      rw [asItem_not e2 e3] at q
      exact iteF q
    | true =>
      obtain ⟨ds, rfl, hl⟩ := tup_len e2
      obtain ⟨a, b, rfl⟩ := two_of hl
      obtain ⟨t, x, y, rfl, ht, hx, hy⟩ := dp2 hd
      obtain ⟨m, rfl, fa, fb⟩ := fit_two ft
      rw [asItem_two] at q
      refine iteT ⟨_, rfl, _, _, _, _, rfl, rfl, ht, at0, a, .str "step", hx, .str _, fit_shaped (n := m) (by omega) fa, ss, _, rfl, ?_⟩
      rw [eqv_str]
      cases e4 : isStr "step" a with
      | false =>
        rw [e4] at q
        exact iteF q
      | true =>
        rw [e4] at q
        exact iteT ⟨_, rfl, _, _, _, _, rfl, rfl, ht, at1, y, b, 0, 1, rfl, hy, q⟩
  | true =>
    obtain ⟨ds, rfl, hl⟩ := tup_len e3
    obtain ⟨a, b, c, rfl⟩ := three_of hl
    obtain ⟨t, x, y, z, rfl, ht, hx, hy, hz⟩ := dp3 hd
    obtain ⟨m, rfl, fa, fb, fc⟩ := fit_three ft
    rw [asItem_three] at q
    refine iteT ⟨_, rfl, _, _, _, _, rfl, rfl, ht, at0, a, .str "call", hx, .str _, fit_shaped (n := m) (by omega) fa, sc, _, rfl, ?_⟩
    rw [eqv_str]
    cases e4 : isStr "call" a with
    | false =>
      rw [e4] at q
      exact iteF ⟨_, rfl, .ref t, .tuple [a, b, c], 2, rfl, hd, _, rfl, iteF q⟩
    | true =>
      rw [e4] at q
      refine iteT ⟨_, rfl, _, _, _, _, rfl, rfl, ht, at1, y, b, 0, 1, rfl, hy, _, rfl, ?_⟩
      cases e5 : inR 0 1 b with
      | false =>
        rw [e5] at q
        exact iteF q
      | true =>
        rw [e5] at q
        exact iteT ⟨_, rfl, _, _, _, _, rfl, rfl, ht, at2, z, c, m, rfl, hz, fc, q⟩
end
end G

end M

set_option Elab.async false
set_option linter.all false
set_option maxRecDepth 100000
set_option maxHeartbeats 2000000
namespace M
open PySem PySem.Spec PyProof.Rows L2

/-- what number_in may say of a word -/
def NumOf (w : Str) (i : Int) : Prop := digI w = some i ∨ (digI w = none ∧ (i = -1 ∨ 10 ≤ i))
theorem digI_len {w : Str} (h : w.length ≠ 1) : digI w = none := by
  cases e : digI w with
  | none => rfl
  | some i =>
    obtain ⟨rfl, _⟩ := digI_ok e
    exact absurd rfl h
theorem digI_bad {w : Str} {c : Nat} (hc : c ∈ TL.tl w) (h : ¬ (48 ≤ c ∧ c ≤ 57)) : digI w = none := by
  cases e : digI w with
  | none => rfl
  | some i =>
    obtain ⟨rfl, h0, h9⟩ := digI_ok e
    rw [tl_dg, List.mem_singleton] at hc
    exact absurd ⟨by omega, by omega⟩ h
theorem num_fin {w : Str} (h1 : 1 ≤ w.length) (h3 : w.length ≤ 3) (hd : ∀ c ∈ TL.tl w, 48 ≤ c ∧ c ≤ 57) (h0 : 1 < w.length → (TL.tl w).head? ≠ some 48) : ∃ v, PySem.intText? w = some v ∧ NumOf w v := by
  have hw : w = ⟨(TL.tl w).toArray⟩ := (TL.mk_tl w).symm
  rw [tl_len] at h1 h3 h0
  generalize TL.tl w = l at hw h1 h3 hd h0
  subst hw
  match l, h1, h3, hd, h0 with
  | [a], _, _, hd, _ =>
    have ha := hd a List.mem_cons_self
    have e : (⟨[a].toArray⟩ : Str) = dg ((a : Int) - 48) := TL.ext_tl (by
      rw [tl_dg]
      show [a] = _
      congr 1
      omega)
    rw [e]
    exact ⟨_, dig_int ⟨by omega, by omega⟩, .inl (digI_dg ⟨by omega, by omega⟩)⟩
  | [a, b], _, _, hd, h0 =>
    have ha := hd a List.mem_cons_self
    have hb := hd b (List.mem_cons_of_mem _ List.mem_cons_self)
    have n0 : a ≠ 48 := fun z => h0 (by show 1 < 2; decide) (by rw [z]; rfl)
    have k := int_two ⟨a - 49, by omega⟩ ⟨b - 48, by omega⟩
    have e : (⟨#[49 + (a - 49), 48 + (b - 48)]⟩ : Str) = ⟨[a, b].toArray⟩ := by
      rw [show 49 + (a - 49) = a by omega, show 48 + (b - 48) = b by omega]
    dsimp only at k
    rw [e] at k
    refine ⟨_, k, .inr ⟨digI_len (by show (2 : Nat) ≠ 1; decide), .inr ?_⟩⟩
    omega
  | [a, b, c], _, _, hd, h0 =>
    have ha := hd a List.mem_cons_self
    have hb := hd b (List.mem_cons_of_mem _ List.mem_cons_self)
    have hc := hd c (List.mem_cons_of_mem _ (List.mem_cons_of_mem _ List.mem_cons_self))
    have n0 : a ≠ 48 := fun z => h0 (by show 1 < 3; decide) (by rw [z]; rfl)
    have k := int_three ⟨a - 49, by omega⟩ ⟨b - 48, by omega⟩ ⟨c - 48, by omega⟩
    have e : (⟨#[49 + (a - 49), 48 + (b - 48), 48 + (c - 48)]⟩ : Str) = ⟨[a, b, c].toArray⟩ := by
      rw [show 49 + (a - 49) = a by omega, show 48 + (b - 48) = b by omega, show 48 + (c - 48) = c by omega]
    dsimp only at k
    rw [e] at k
    refine ⟨_, k, .inr ⟨digI_len (by show (3 : Nat) ≠ 1; decide), .inr ?_⟩⟩
    omega
  | [], h, _, _, _ => exact absurd h (by show ¬ (1 ≤ 0); decide)
  | _ :: _ :: _ :: _ :: _, _, h, _, _ =>
    rw [List.length_cons, List.length_cons, List.length_cons, List.length_cons] at h
    omega
theorem head_at {w : Str} (h : 1 ≤ w.length) : ∃ c r, TL.tl w = c :: r ∧ atI w.cps.toList 0 = some c := by
  rw [tl_len] at h
  cases e : TL.tl w with
  | nil =>
    rw [e] at h
    exact absurd h (by decide)
  | cons c r => exact ⟨c, r, rfl, atI_nat (j := 0) (by show (TL.tl w)[0]? = _; rw [e]; rfl)⟩
namespace G
section
variable {P : Program} {w : World} {K : PySem.W.Frag} {mg : Str → Option Value} {base : Heap}
def spNum : Sp := fun vs H Q _ => ∃ (s : Str), vs = [.str s] ∧ s.length ≤ 1000000 ∧ ∀ i, NumOf s i → Q (.int i) H
theorem ca_number_in (T : Txt w K mg) : Ca P w K mg base 1 "number_in" (spNum) := by
  refine ca_of (N := ["word", "sign"]) (ps := ["word"]) T.f_number_in T.g_number_in ⟨rfl, rfl, rfl, by decide +kernel, rfl, by decide +kernel, by decide +kernel⟩ (fun _ _ _ _ _ _ us hl => match us, hl with | [_], _ => rfl)
    (fun vs H Q E h => by obtain ⟨s, rfl, hl, q⟩ := h; rfl) (fun cdv A outer s H vs Q E hr h => ?_)
  have nd : (["word", "sign"] : List Str).Nodup := by decide +kernel
  obtain ⟨s, rfl, hl, q⟩ := h
  refine ⟨_, (pss_cons (ps_if (PW.pt (pw_or (pt_not (pt_chain op_le op_le pe_int (pe_callB call_len_str (by rfl) T.b_len PySem.boot_len (pa_cons (pv 0) pa_nil)) (pe_gi T.i_MOST_DIGITS))) (pw_or1 (PW.pt (pw_and (pt_cmpR op_eq (pe_ix ix_str (pv 0) pe_int (fun _ _ => rfl)) pe_str (nomark _)) (pw_and1 (pt_cmpR op_gt (pe_callB call_len_str (by rfl) T.b_len PySem.boot_len (pa_cons (pv 0) pa_nil)) pe_int (nomark _)))))))) (pss_one (ps_ret (pe_un un_neg pe_int))) pss_nil)
      (pss_cons (ps_for PassesOwn.never rfl (pi_str (pv 0)) (pg_name (i := 1) nd rfl (.inl rfl)) (pss_one (ps_if (pt_not (pt_chain op_le_str op_le_str pe_str (pv 1) pe_str)) (pss_one (ps_ret (pe_un un_neg pe_int))) pss_nil)))
      (pss_one (ps_ret (pe_callTy call_int_str (by rfl) T.b_int boot_int (pa_cons (pv 0) pa_nil)))))), ?_⟩
  have none_ : digI s = none → Q (.int (-1)) H := fun h => q _ (.inr ⟨h, .inl rfl⟩)
  refine ⟨_, rfl, _, rfl, by rw [sizeLine_eq]; omega, _, _, rfl, rfl, _, rfl, ?_⟩
  by_cases c1 : 1 ≤ s.length
  case neg =>
    rw [decide_eq_false (show ¬ (1 : Int) ≤ (s.length : Int) by omega)]
    exact iteF ⟨_, rfl, iteT (iteT ⟨_, rfl, none_ (digI_len (by omega))⟩)⟩
  rw [decide_eq_true (show (1 : Int) ≤ (s.length : Int) by omega)]
  refine iteT ⟨_, _, rfl, rfl, _, rfl, ?_⟩
  by_cases c2 : s.length ≤ 3
  case neg =>
    rw [decide_eq_false (show ¬ (s.length : Int) ≤ 3 by omega)]
    exact iteT (iteT ⟨_, rfl, none_ (digI_len (by omega))⟩)
  rw [decide_eq_true (show (s.length : Int) ≤ 3 by omega)]
  obtain ⟨c, r, et, ec⟩ := head_at c1
  refine iteF ⟨_, rfl, _, 0, c, rfl, rfl, by rw [sizeLine_eq]; omega, ec, rfl, _, rfl, ?_⟩
  by_cases cb : c = 48 ∧ 1 < s.length
  case pos =>
    rw [decide_eq_true (show V.str (⟨#[c]⟩ : Str) = V.str "0" by rw [cb.1]; decide +kernel)]
    refine iteT ⟨_, rfl, _, rfl, by rw [sizeLine_eq]; omega, _, _, rfl, rfl, _, rfl, ?_⟩
    rw [decide_eq_true (show (1 : Int) < (s.length : Int) by omega)]
    exact iteT ⟨_, rfl, none_ (digI_len (by omega))⟩
  have h0 : 1 < s.length → (TL.tl s).head? ≠ some 48 := fun h z => by
    rw [et] at z
    exact cb ⟨Option.some.inj z, h⟩
  by_cases c0 : c = 48
  case' pos =>
    rw [decide_eq_true (show V.str (⟨#[c]⟩ : Str) = V.str "0" by rw [c0]; decide +kernel)]
    refine iteT ⟨_, rfl, _, rfl, by rw [sizeLine_eq]; omega, _, _, rfl, rfl, _, rfl, ?_⟩
    rw [decide_eq_false (show ¬ (1 : Int) < (s.length : Int) from fun z => cb ⟨c0, by omega⟩)]
    refine iteF ?_
  case' neg =>
    rw [decide_eq_false (show ¬ V.str (⟨#[c]⟩ : Str) = V.str "0" from fun z => by
      have z := congrArg (fun s : Str => s.cps.toList) (V.str.inj z)
      have z : [c] = ([48] : List Nat) := z
      exact c0 (List.cons.inj z).1)]
    refine iteF ?_
  all_goals
    refine ⟨_, rfl, _, rfl, for_it (n := s.cps.size) walk_str (fun i σ' H' => ∃ x, σ' = [some (.str s), x] ∧ H' = H ∧ ∀ (j c : Nat), j < i → s.cps[j]? = some c → 48 ≤ c ∧ c ≤ 57) ⟨none, rfl, rfl, fun j c h => absurd h (Nat.not_lt_zero j)⟩ (fun _ _ _ _ _ => trivial) ?_ ?_⟩
    · rintro i x σ' H' H2 hi ⟨_, rfl, rfl, hall⟩ ⟨rfl, k, hk, rfl⟩
      have hm : k ∈ TL.tl s := by
        rw [← Array.getElem?_toList] at hk
        exact List.mem_of_getElem? hk
      refine ⟨_, rfl, _, _, rfl, rfl, _, rfl, ?_⟩
      by_cases c3 : 48 ≤ k
      · refine (if_true_of (sign_le c3) ?_)
        refine ⟨_, _, rfl, rfl, _, rfl, ?_⟩
        by_cases c4 : k ≤ 57
        · refine if_not_of (sign_le c4) ⟨_, rfl, rfl, fun j c5 hj hc5 => ?_⟩
          rcases Nat.lt_or_eq_of_le (Nat.le_of_lt_succ hj) with hj | hj
          · exact hall j c5 hj hc5
          · rw [hj, hk] at hc5
            cases (Option.some.inj hc5)
            exact ⟨c3, c4⟩
        · exact if_gt_of (sign_gt (c := 57) (a := k) (by omega)) ⟨_, rfl, none_ (digI_bad hm (fun z => c4 z.2))⟩
      · exact if_gt2_of (sign_gt (c := k) (a := 48) (by omega)) ⟨_, rfl, iteT ⟨_, rfl, none_ (digI_bad hm (fun z => c3 z.1))⟩⟩
    · rintro σ' H' ⟨_, rfl, rfl, hall⟩
      obtain ⟨v, hv, nv⟩ := num_fin c1 c2 (fun c hc => by
        obtain ⟨j, hj, e⟩ := List.mem_iff_getElem.mp hc
        refine hall j c (by simpa using hj) ?_
        rw [← Array.getElem?_toList, List.getElem?_eq_getElem hj, e]) h0
      exact ⟨_, rfl, s, v, rfl, hv, by omega, q v nv⟩
end
end G

end M

set_option Elab.async false
set_option linter.all false
set_option maxRecDepth 100000
set_option maxHeartbeats 2000000
namespace M
open PySem PySem.Spec PyProof.Rows L2

def lineCall : List Str → Option (Str × Int)
  | [a, b] => (digI b).bind fun i => if NameOk a ∧ i ≤ 8 then some (a, i) else none
  | _ => none
def lineItem : List Str → Option Itm
  | [a, b] => if a = "step" then (digI b).bind fun i => if i ≤ 1 then some (.step i) else none else none
  | [a, b, c, d] => if a = "call" then (digI b).bind fun i => if i ≤ 1 then (lineCall [c, d]).map (.call i) else none else none
  | _ => none
theorem num_call {a b : Str} {i : Int} (h : NumOf b i) : asCall (.tuple [.str a, .int i]) = lineCall [a, b] := by
  show (if NameOk a ∧ 0 ≤ i ∧ i ≤ 8 then some (a, i) else none) = (digI b).bind fun i => if NameOk a ∧ i ≤ 8 then some (a, i) else none
  rcases h with h | ⟨h, h2⟩
  · have := digI_ok h
    rw [h, Option.bind_some]
    by_cases c : NameOk a ∧ i ≤ 8
    · rw [if_pos c, if_pos ⟨c.1, this.2.1, c.2⟩]
    · rw [if_neg c, if_neg (fun z => c ⟨z.1, z.2.2⟩)]
  · rw [h, if_neg (fun z => by omega)]
    rfl
theorem num_step {a b : Str} {i : Int} (h : NumOf b i) : asItem (.tuple [.str a, .int i]) = lineItem [a, b] := by
  show (if a = "step" ∧ 0 ≤ i ∧ i ≤ 1 then some (Itm.step i) else none) = if a = "step" then (digI b).bind fun i => if i ≤ 1 then some (Itm.step i) else none else none
  by_cases ha : a = "step"
  · rw [if_pos ha]
    rcases h with h | ⟨h, h2⟩
    · have := digI_ok h
      rw [h, Option.bind_some]
      by_cases c : i ≤ 1
      · rw [if_pos c, if_pos ⟨ha, this.2.1, c⟩]
      · rw [if_neg c, if_neg (fun z => c z.2.2)]
    · rw [h, if_neg (fun z => by omega)]
      rfl
  · rw [if_neg ha, if_neg (fun z => ha z.1)]
/-- what a call's reading gives as data -/
def callO : Option (Str × Int) → PyData
  | some c => callD c
  | none => .none
theorem num_item {b c d : Str} {i : Int} (h : NumOf b i) : asItem (.tuple [.str "call", .int i, callO (lineCall [c, d])]) = lineItem ["call", b, c, d] := by
  show (if ("call" : Str) = "call" ∧ 0 ≤ i ∧ i ≤ 1 then (asCall (callO (lineCall [c, d]))).map (Itm.call i) else none) = if ("call" : Str) = "call" then (digI b).bind fun i => if i ≤ 1 then (lineCall [c, d]).map (Itm.call i) else none else none
  rw [if_pos rfl]
  have e : asCall (callO (lineCall [c, d])) = lineCall [c, d] := by
    cases z : lineCall [c, d] with
    | none => rfl
    | some q =>
      have o : CallOk q := by
        have z : (digI d).bind (fun i => if NameOk c ∧ i ≤ 8 then some (c, i) else none) = some q := z
        obtain ⟨j, hj, hq⟩ := Option.bind_eq_some_iff.mp z
        have := digI_ok hj
        split at hq
        · rename_i o
          cases hq
          exact ⟨o.1, this.2.1, o.2⟩
        · cases hq
      exact asCall_of o
  rw [e]
  rcases h with h | ⟨h, h2⟩
  · have := digI_ok h
    rw [h, Option.bind_some]
    by_cases k : i ≤ 1
    · rw [if_pos k, if_pos ⟨rfl, this.2.1, k⟩]
    · rw [if_neg k, if_neg (fun z => k z.2.2)]
  · rw [h, if_neg (fun z => by omega)]
    rfl
def itemO : Option Itm → PyData
  | some t => itemD t
  | none => .none
theorem lineCall_ok {ws : List Str} {q : Str × Int} (z : lineCall ws = some q) : CallOk q ∧ ws = [q.1, dg q.2] := by
  match ws, z with
  | [c, d], z =>
    have z : (digI d).bind (fun i => if NameOk c ∧ i ≤ 8 then some (c, i) else none) = some q := z
    obtain ⟨j, hj, hq⟩ := Option.bind_eq_some_iff.mp z
    have := digI_ok hj
    split at hq
    · rename_i o
      cases hq
      exact ⟨⟨o.1, this.2.1, o.2⟩, by rw [this.1]⟩
    · cases hq
theorem strOk_of {s : Str} (h : ∀ c ∈ TL.tl s, c < 1114112) : PyData.strOk s = true := by
  unfold PyData.strOk
  rw [Array.all_eq_true']
  intro x hx
  exact decide_eq_true (h x (by simpa using hx))
theorem name_fit {s : Str} (h : NameOk s) : s.length ≤ 1000000 ∧ PyData.strOk s = true := by
  have := h.2.1
  exact ⟨by omega, strOk_of fun c hc => by have := h.2.2 c hc; omega⟩
theorem fit_call {n : Nat} {c : Str × Int} (h : CallOk c) : fit (n + 1) (callD c) := ⟨by show 2 ≤ 100000; decide, fun d hd => by
  rcases List.mem_cons.mp hd with e | hd
  · subst e
    cases n <;> exact name_fit h.1
  · rw [List.mem_singleton.mp hd]
    cases n <;> trivial⟩
def WordsOk (ws : List Str) : Prop := ws.length ≤ 100000 ∧ ∀ w ∈ ws, w.length ≤ 1000000 ∧ PyData.strOk w = true
theorem cutV_two {a b c d : V} : cutV [a, b, c, d] (some 2) none = [c, d] := by
  unfold cutV
  rw [show (some (2 : Int)) = some ((2 : Nat) : Int) from rfl, HT.sIx_nat, HT.sIx_none]
  rfl
namespace G
section
variable {P : Program} {w : World} {K : PySem.W.Frag} {mg : Str → Option Value} {base : Heap}
theorem Cf.ca {k : Nat} {x : Str} {ps : List Str} {sp : Sp} (c : Cf P w K mg base k x ps sp) : Ca P w K mg base k x sp := by
  obtain ⟨fd, oc, od, osl, lk, F, hk, hb⟩ := c.ex
  exact ⟨_, fd, ps, F, c.g, hk, hb⟩
def spLine (K : PySem.W.Frag) (f : List Str → PyData) : Sp := fun vs H Q _ => ∃ (a : Addr) (ws : List Str), vs = [.ref a] ∧ SqL K H a (ws.map V.str) ∧ WordsOk ws ∧ ∀ (v : V) (H' : Hp), Same H H' → Dp K H' v (f ws) → Q v H'
theorem cf_call_in (T : Txt w K mg) : Cf P w K mg base 4 "call_in" ["words"] (spLine K (fun ws => callO (lineCall ws))) := by
  refine cf_of (N := ["words", "call"]) (ps := ["words"]) T.f_call_in T.g_call_in ⟨rfl, rfl, rfl, by decide +kernel, rfl, by decide +kernel, by decide +kernel⟩ (fun _ _ _ _ _ _ us hl => match us, hl with | [_], _ => rfl)
    (fun vs H Q E h => by obtain ⟨a, ws, rfl, hw, wo, q⟩ := h; rfl) (fun cdv A outer s H vs Q E hr h => ?_)
  have nd : (["words", "call"] : List Str).Nodup := by decide +kernel
  obtain ⟨a, ws, rfl, hw, wo, q⟩ := h
  refine ⟨_, (pss_cons (ps_if (pt_cmpR op_ne (pe_callB call_len_seq (by rfl) T.b_len PySem.boot_len (pa_cons (pv 0) pa_nil)) pe_int (nomark _)) (pss_one (ps_ret pe_non)) pss_nil)
      (pss_cons (ps_set (i := 1) nd rfl (.inl rfl) (pe_tup (pa_cons (pe_ix ix_list (pv 0) pe_int (fun _ _ => rfl)) (pa_cons (pe_ca (ca_number_in T) hr (pa_cons (pe_ix ix_list (pv 0) pe_int (fun _ _ => rfl)) pa_nil)) pa_nil))))
      (pss_one (ps_ret (pe_ifExp (pt_val (pe_ca (ca_is_call T) hr (pa_cons (pv 1) pa_nil))) (pv 1) pe_non))))), ?_⟩
  by_cases c2 : ws.length = 2
  · obtain ⟨x, y, rfl⟩ := two_of (l := ws) (by omega)
    have hw : SqL K H a [.str x, .str y] := hw
    have wx := wo.2 x List.mem_cons_self
    have wy := wo.2 y (List.mem_cons_of_mem _ List.mem_cons_self)
    refine ⟨_, rfl, _, _, rfl, .inl hw, rfl, _, rfl, iteF ?_⟩
    refine ⟨_, rfl, _, _, _, _, rfl, rfl, hw, at0, _, rfl, _, _, _, _, rfl, rfl, hw, at1, y, rfl, wy.1, fun i ni => ⟨(by show 2 ≤ sizeLine; decide), fun t nt => ?_⟩⟩
    have s1 := same_new (o := .tup [.str x, .int i]) nt
    have d1 : Dp K (upd H t (.tup [.str x, .int i])) (.ref t) (.tuple [.str x, .int i]) := .tup (.of upd_same) (.cons (.str _) (.cons (.int _) .nil))
    have ft : fit 1 (.tuple [.str x, .int i]) := ⟨by show 2 ≤ 100000; decide, fun d hd => by
      rcases List.mem_cons.mp hd with e | hd
      · subst e
        exact wx
      · rw [List.mem_singleton.mp hd]
        trivial⟩
    refine ⟨_, rfl, _, _, 1, rfl, d1, ft, _, rfl, ?_⟩
    rw [num_call ni]
    cases e : lineCall [x, y] with
    | none => exact iteF (q _ _ s1 (by show Dp K _ _ (callO (lineCall [x, y])); rw [e]; exact .non))
    | some c =>
      rw [← num_call ni] at e
      have dc := asCall_ok e
      rw [num_call ni] at e
      exact iteT ⟨_, rfl, q _ _ s1 (by show Dp K _ _ (callO (lineCall [x, y])); rw [e]; show Dp K _ _ (callD c); rw [← dc.1]; exact d1)⟩
  · have e : lineCall ws = none := by
      match ws, c2 with
      | [], _ => rfl
      | [_], _ => rfl
      | [_, _], h => exact absurd rfl h
      | _ :: _ :: _ :: _, _ => rfl
    refine ⟨_, rfl, _, _, rfl, .inl hw, rfl, _, rfl, ?_⟩
    rw [decide_eq_false (show ¬ V.int ((ws.map V.str).length : Nat) = V.int 2 from fun z => c2 (by have := V.int.inj z; rw [List.length_map] at this; omega))]
    exact iteT (q _ H (Same.refl _) (by show Dp K _ _ (callO (lineCall ws)); rw [e]; exact .non))
theorem cf_item_in (T : Txt w K mg) : Cf P w K mg base 6 "item_in" ["words"] (spLine K (fun ws => itemO (lineItem ws))) := by
  refine cf_of (N := ["words", "item"]) (ps := ["words"]) T.f_item_in T.g_item_in ⟨rfl, rfl, rfl, by decide +kernel, rfl, by decide +kernel, by decide +kernel⟩ (fun _ _ _ _ _ _ us hl => match us, hl with | [_], _ => rfl)
    (fun vs H Q E h => by obtain ⟨a, ws, rfl, hw, wo, q⟩ := h; rfl) (fun cdv A outer s H vs Q E hr h => ?_)
  have nd : (["words", "item"] : List Str).Nodup := by decide +kernel
  obtain ⟨a, ws, rfl, hw, wo, q⟩ := h
  refine ⟨_, (pss_cons (ps_if (PW.pt (pw_and (pt_cmpR op_eq (pe_callB call_len_seq (by rfl) T.b_len PySem.boot_len (pa_cons (pv 0) pa_nil)) pe_int (nomark _)) (pw_and1 (pt_cmpR op_eq (pe_ix ix_list (pv 0) pe_int (fun _ _ => rfl)) pe_str (nomark _))))) (pss_one (ps_set (i := 1) nd rfl (.inl rfl) (pe_tup (pa_cons pe_str (pa_cons (pe_ca (ca_number_in T) hr (pa_cons (pe_ix ix_list (pv 0) pe_int (fun _ _ => rfl)) pa_nil)) (pa_cons (pe_ca (Cf.ca (cf_call_in T)) hr (pa_cons (pe_slice sl_list (pv 0) (po_some pe_int) po_none) pa_nil)) pa_nil)))))) (pss_one (ps_if (pt_cmpR op_eq (pe_callB call_len_seq (by rfl) T.b_len PySem.boot_len (pa_cons (pv 0) pa_nil)) pe_int (nomark _)) (pss_one (ps_set (i := 1) nd rfl (.inl rfl) (pe_tup (pa_cons (pe_ix ix_list (pv 0) pe_int (fun _ _ => rfl)) (pa_cons (pe_ca (ca_number_in T) hr (pa_cons (pe_ix ix_list (pv 0) pe_int (fun _ _ => rfl)) pa_nil)) pa_nil))))) (pss_one (ps_ret pe_non)))))
      (pss_one (ps_ret (pe_ifExp (pt_val (pe_ca (ca_is_item T) hr (pa_cons (pv 1) pa_nil))) (pv 1) pe_non)))), ?_⟩
  refine ⟨_, rfl, _, _, rfl, .inl hw, rfl, _, rfl, ?_⟩
  by_cases c4 : ws.length = 4
  · obtain ⟨x, y, z, u, rfl⟩ : ∃ x y z u, ws = [x, y, z, u] := by
      match ws, c4 with
      | [x, y, z, u], _ => exact ⟨x, y, z, u, rfl⟩
    have hw : SqL K H a [.str x, .str y, .str z, .str u] := hw
    have wx := wo.2 x List.mem_cons_self
    have wy := wo.2 y (List.mem_cons_of_mem _ List.mem_cons_self)
    have wz := wo.2 z (List.mem_cons_of_mem _ (List.mem_cons_of_mem _ List.mem_cons_self))
    have wu := wo.2 u (List.mem_cons_of_mem _ (List.mem_cons_of_mem _ (List.mem_cons_of_mem _ List.mem_cons_self)))
    refine iteT ⟨_, rfl, _, _, _, _, rfl, rfl, hw, at0, rfl, _, rfl, ?_⟩
    by_cases hc : x = "call"
    · subst hc
      refine iteT ⟨_, rfl, _, _, _, _, rfl, rfl, hw, at1, y, rfl, wy.1, fun i ni => ?_⟩
      refine ⟨_, rfl, _, rfl, a, _, rfl, hw, fun v nv => ?_⟩
      rw [cutV_two]
      have s0 := same_new (o := .lst [.str z, .str u]) nv
      refine ⟨v, [z, u], rfl, .of upd_same, ⟨by show 2 ≤ 100000; decide, fun p hp => wo.2 p (List.mem_cons_of_mem _ (List.mem_cons_of_mem _ hp))⟩, fun t2 H2 s2 d2 => ⟨(by show 3 ≤ sizeLine; decide), fun t nt => ?_⟩⟩
      have s1 := same_new (o := .tup [.str "call", .int i, t2]) nt
      have d1 : Dp K (upd H2 t (.tup [.str "call", .int i, t2])) (.ref t) (.tuple [.str "call", .int i, callO (lineCall [z, u])]) := .tup (.of upd_same) (.cons (.str _) (.cons (.int _) (.cons (dp_same s1 d2) .nil)))
      have fc : fit 1 (callO (lineCall [z, u])) := by
        cases e : lineCall [z, u] with
        | none => trivial
        | some c =>
          obtain ⟨o, _⟩ := lineCall_ok e
          exact fit_call o
      have ft : fit 2 (.tuple [.str "call", .int i, callO (lineCall [z, u])]) := ⟨by show 3 ≤ 100000; decide, fun d hd => by
        rcases List.mem_cons.mp hd with e | hd
        · subst e
          exact wx
        rcases List.mem_cons.mp hd with e | hd
        · subst e
          trivial
        · rw [List.mem_singleton.mp hd]
          exact fc⟩
      refine ⟨_, rfl, _, _, 2, rfl, d1, ft, by decide, _, rfl, ?_⟩
      have ss := (s0.trans s2).trans s1
      have en := num_item (b := y) (c := z) (d := u) ni
      rw [en]
      cases e : lineItem ["call", y, z, u] with
      | none => exact iteF (q _ _ ss (by show Dp K _ _ (itemO (lineItem ["call", y, z, u])); rw [e]; exact .non))
      | some k =>
        rw [e] at en
        exact iteT ⟨_, rfl, q _ _ ss (by show Dp K _ _ (itemO (lineItem ["call", y, z, u])); rw [e]; show Dp K _ _ (itemD k); rw [← (asItem_ok en).1]; exact d1)⟩
    · rw [decide_eq_false (show ¬ V.str x = V.str "call" from fun z => hc (V.str.inj z))]
      refine iteF ⟨_, rfl, _, _, rfl, .inl hw, rfl, _, rfl, iteF ?_⟩
      exact q _ H (Same.refl _) (by show Dp K _ _ (itemO (if x = "call" then _ else none)); rw [if_neg hc]; exact .non)
  · rw [decide_eq_false (show ¬ V.int ((ws.map V.str).length : Nat) = V.int 4 from fun z => c4 (by have := V.int.inj z; rw [List.length_map] at this; omega))]
    refine iteF ⟨_, rfl, _, _, rfl, .inl hw, rfl, _, rfl, ?_⟩
    by_cases c2 : ws.length = 2
    · obtain ⟨x, y, rfl⟩ := two_of (l := ws) (by omega)
      have hw : SqL K H a [.str x, .str y] := hw
      have wx := wo.2 x List.mem_cons_self
      have wy := wo.2 y (List.mem_cons_of_mem _ List.mem_cons_self)
      refine iteT ⟨_, rfl, _, _, _, _, rfl, rfl, hw, at0, _, rfl, _, _, _, _, rfl, rfl, hw, at1, y, rfl, wy.1, fun i ni => ⟨(by show 2 ≤ sizeLine; decide), fun t nt => ?_⟩⟩
      have s1 := same_new (o := .tup [.str x, .int i]) nt
      have d1 : Dp K (upd H t (.tup [.str x, .int i])) (.ref t) (.tuple [.str x, .int i]) := .tup (.of upd_same) (.cons (.str _) (.cons (.int _) .nil))
      have ft : fit 1 (.tuple [.str x, .int i]) := ⟨by show 2 ≤ 100000; decide, fun d hd => by
        rcases List.mem_cons.mp hd with e | hd
        · subst e
          exact wx
        · rw [List.mem_singleton.mp hd]
          trivial⟩
      refine ⟨_, rfl, _, _, 1, rfl, d1, ft, by decide, _, rfl, ?_⟩
      have en := num_step (a := x) (b := y) ni
      rw [en]
      cases e : lineItem [x, y] with
      | none => exact iteF (q _ _ s1 (by show Dp K _ _ (itemO (lineItem [x, y])); rw [e]; exact .non))
      | some k =>
        rw [e] at en
        exact iteT ⟨_, rfl, q _ _ s1 (by show Dp K _ _ (itemO (lineItem [x, y])); rw [e]; show Dp K _ _ (itemD k); rw [← (asItem_ok en).1]; exact d1)⟩
    · have e : lineItem ws = none := by
        match ws, c2, c4 with
        | [], _, _ => rfl
        | [_], _, _ => rfl
        | [_, _], h, _ => exact absurd rfl h
        | [_, _, _], _, _ => rfl
        | [_, _, _, _], _, h => exact absurd rfl h
        | _ :: _ :: _ :: _ :: _ :: _, _, _ => rfl
      rw [decide_eq_false (show ¬ V.int ((ws.map V.str).length : Nat) = V.int 2 from fun z => c2 (by have := V.int.inj z; rw [List.length_map] at this; omega))]
      exact iteF (q _ H (Same.refl _) (by show Dp K _ _ (itemO (lineItem ws)); rw [e]; exact .non))
end
end G

end M

set_option Elab.async false
set_option linter.all false
set_option maxRecDepth 100000
set_option maxHeartbeats 2000000
namespace M
open PySem PySem.Spec PyProof.Rows L2

/-! ### what comes of a def that returns data or raises -/
inductive Rs where
  | ok (d : PyData) | bad (x f : Str) (i : Int) | bad0 (x : Str)
def Ret (K : PySem.W.Frag) (H : Hp) (Q : VK) (E : XK) : Rs → Prop
  | .ok d => ∀ v H', Same H H' → Dp K H' v d → Q v H'
  | .bad x f i => ∀ H' dd, Same H H' → H' dd = none → E (.ref (He.ga K x)) (some dd) (upd H' dd (.xd [(f, .int i)]))
  | .bad0 x => ∀ H', Same H H' → E (.ref (He.ga K x)) none H'
theorem Ret.of {K : PySem.W.Frag} {H H' : Hp} {Q : VK} {E : XK} {r : Rs} (s : Same H H') (h : Ret K H Q E r) : Ret K H' Q E r := by
  cases r with
  | ok d => exact fun v H2 s2 d2 => h v H2 (s.trans s2) d2
  | bad x f i => exact fun H2 dd s2 nd => h H2 dd (s.trans s2) nd
  | bad0 x => exact fun H2 s2 => h H2 (s.trans s2)
/-- one after another, until one gives nothing -/
def runL {α β : Type} (f : α → Option β) : List α → Sum Nat (List β)
  | [] => .inr []
  | x :: r => match f x with
    | none => .inl 0
    | some y => match runL f r with
      | .inl i => .inl (i + 1)
      | .inr ys => .inr (y :: ys)
section
variable {α β : Type} {f : α → Option β}
theorem runL_bad : ∀ {i : Nat} {xs : List α} {ys : List β} {x : α}, Paired (fun a b => f a = some b) (xs.take i) ys → xs[i]? = some x → f x = none → runL f xs = .inl i
  | 0, [], _, _, _, h, _ => by cases h
  | 0, a :: r, _, x, _, h, n => by
    cases (Option.some.inj h)
    show (match f a with | none => _ | some y => _) = _
    rw [n]
  | i + 1, [], _, _, _, h, _ => by cases h
  | i + 1, a :: r, ys, x, p, h, n => by
    cases p with
    | cons p1 p2 =>
      have k := runL_bad p2 h n
      show (match f a with | none => _ | some y => _) = _
      rw [p1]
      dsimp only
      rw [k]
theorem runL_all : ∀ {xs : List α} {ys : List β}, Paired (fun a b => f a = some b) xs ys → runL f xs = .inr ys
  | _, _, .nil => rfl
  | a :: r, _, .cons p1 p2 => by
    have k := runL_all p2
    show (match f a with | none => _ | some y => _) = _
    rw [p1]
    dsimp only
    rw [k]
theorem runL_inr : ∀ {xs : List α} {ys : List β}, runL f xs = .inr ys → Paired (fun a b => f a = some b) xs ys
  | [], ys, h => by
    cases h
    exact .nil
  | a :: r, ys, h => by
    have h : (match f a with | none => .inl 0 | some y => match runL f r with | .inl i => .inl (i + 1) | .inr ys => .inr (y :: ys)) = (Sum.inr ys : Sum Nat (List β)) := h
    cases e : f a with
    | none =>
      rw [e] at h
      cases h
    | some y =>
      rw [e] at h
      dsimp only at h
      cases e2 : runL f r with
      | inl i =>
        rw [e2] at h
        cases h
      | inr zs =>
        rw [e2] at h
        cases h
        exact .cons e (runL_inr e2)
theorem paired_snoc {R : α → β → Prop} : ∀ {i : Nat} {xs : List α} {ys : List β} {x : α} {y : β}, Paired R (xs.take i) ys → xs[i]? = some x → R x y → Paired R (xs.take (i + 1)) (ys ++ [y])
  | 0, [], _, _, _, _, h, _ => by cases h
  | 0, a :: r, ys, x, y, p, h, k => by
    cases (Option.some.inj h)
    cases p
    exact .cons k .nil
  | i + 1, [], _, _, _, _, h, _ => by cases h
  | i + 1, a :: r, ys, x, y, p, h, k => by
    cases p with
    | cons p1 p2 => exact .cons p1 (paired_snoc p2 h k)
theorem paired_full {R : α → β → Prop} {xs : List α} {ys : List β} {n : Nat} (hn : n = xs.length) (p : Paired R (xs.take n) ys) : Paired R xs ys := by
  rw [hn, List.take_length] at p
  exact p
end
theorem paired_mem {α β : Type} {R : α → β → Prop} : ∀ {xs : List α} {ys : List β}, Paired R xs ys → ∀ y ∈ ys, ∃ x ∈ xs, R x y
  | _, _, .nil, _, h => by cases h
  | _, _, .cons h t, y, hy => by
    rcases List.mem_cons.mp hy with e | hy
    · subst e
      exact ⟨_, List.mem_cons_self, h⟩
    · obtain ⟨x, hx, r⟩ := paired_mem t y hy
      exact ⟨x, List.mem_cons_of_mem _ hx, r⟩
theorem sum_len {ss : List Str} {k : Nat} (h : ∀ s ∈ ss, s.length ≤ k) : (ss.map (·.length)).sum ≤ ss.length * k := by
  induction ss with
  | nil => exact Nat.zero_le _
  | cons s r ih =>
    have h1 := h s List.mem_cons_self
    have := ih fun x hx => h x (List.mem_cons_of_mem _ hx)
    rw [List.map_cons, List.sum_cons, List.length_cons, Nat.succ_mul]
    omega
def rowR : PyData → Rs
  | .list ds => match runL asCall ds with
    | .inl i => .bad "NoRow" "index" (i : Nat)
    | .inr cs => .ok (.str (Txt.join ("\n" : Str) (cs.map callL)))
  | _ => .bad "NoRow" "index" (-1)
def wvgR : PyData → Rs
  | .list ds => match runL asItem ds with
    | .inl i => .bad "NoWeaving" "index" (i : Nat)
    | .inr cs => .ok (.str (Txt.join ("\n" : Str) (cs.map itemL)))
  | _ => .bad "NoWeaving" "index" (-1)
namespace G
section
variable {P : Program} {w : World} {K : PySem.W.Frag} {mg : Str → Option Value} {base : Heap}
theorem xi_NoRow (T : Txt w K mg) : Xi P w K mg base 2 "NoRow" "index" := by
  refine xi_of (N := ["self", "index"]) (ps := ["self", "index"]) T.f_NoRow_init T.g_NoRow T.e_NoRow ⟨rfl, rfl, rfl, by decide +kernel, rfl, by decide +kernel, by decide +kernel⟩ (fun _ _ _ _ _ _ us hl => match us, hl with | [_, _], _ => rfl) rfl (fun cdv A outer s H vs Q E hr h => ?_)
  obtain ⟨a, v, rfl, e, g⟩ := h
  exact ⟨_, pss_cons (ps_expr (pe_pinit T.g_PastError T.e_PastError (pa_cons (pv 0) (pa_cons pe_str pa_nil)))) (pss_one (ps_ost (pv 0) (pv 1))), .ref a, rfl, a, _, _, rfl, (by show 1 ≤ 1000; decide), (oexB_ok T.e_NoRow).oex, e, v, rfl, .ref a, rfl, a, _, rfl, (oexB_ok T.e_NoRow).oex, (oexB_ok T.e_NoRow).no, .inl ⟨e, g⟩⟩
theorem xi_NoWeaving (T : Txt w K mg) : Xi P w K mg base 2 "NoWeaving" "index" := by
  refine xi_of (N := ["self", "index"]) (ps := ["self", "index"]) T.f_NoWeaving_init T.g_NoWeaving T.e_NoWeaving ⟨rfl, rfl, rfl, by decide +kernel, rfl, by decide +kernel, by decide +kernel⟩ (fun _ _ _ _ _ _ us hl => match us, hl with | [_, _], _ => rfl) rfl (fun cdv A outer s H vs Q E hr h => ?_)
  obtain ⟨a, v, rfl, e, g⟩ := h
  exact ⟨_, pss_cons (ps_expr (pe_pinit T.g_PastError T.e_PastError (pa_cons (pv 0) (pa_cons pe_str pa_nil)))) (pss_one (ps_ost (pv 0) (pv 1))), .ref a, rfl, a, _, _, rfl, (by show 1 ≤ 1000; decide), (oexB_ok T.e_NoWeaving).oex, e, v, rfl, .ref a, rfl, a, _, rfl, (oexB_ok T.e_NoWeaving).oex, (oexB_ok T.e_NoWeaving).no, .inl ⟨e, g⟩⟩
theorem xi_NoText (T : Txt w K mg) : Xi P w K mg base 2 "NoText" "line" := by
  refine xi_of (N := ["self", "line"]) (ps := ["self", "line"]) T.f_NoText_init T.g_NoText T.e_NoText ⟨rfl, rfl, rfl, by decide +kernel, rfl, by decide +kernel, by decide +kernel⟩ (fun _ _ _ _ _ _ us hl => match us, hl with | [_, _], _ => rfl) rfl (fun cdv A outer s H vs Q E hr h => ?_)
  obtain ⟨a, v, rfl, e, g⟩ := h
  exact ⟨_, pss_cons (ps_expr (pe_pinit T.g_PastError T.e_PastError (pa_cons (pv 0) (pa_cons pe_str pa_nil)))) (pss_one (ps_ost (pv 0) (pv 1))), .ref a, rfl, a, _, _, rfl, (by show 1 ≤ 1000; decide), (oexB_ok T.e_NoText).oex, e, v, rfl, .ref a, rfl, a, _, rfl, (oexB_ok T.e_NoText).oex, (oexB_ok T.e_NoText).no, .inl ⟨e, g⟩⟩
def spTx (K : PySem.W.Frag) (f : PyData → Rs) : Sp := fun vs H Q E => ∃ (v : V) (d : PyData) (n : Nat), vs = [v] ∧ Dp K H v d ∧ fit n d ∧ n ≤ 50 ∧ Ret K H Q E (f d)
theorem cx_row_text (T : Txt w K mg) : CaX P w K mg base 6 "row_text" (spTx K rowR) := by
  refine ca_ofX (N := ["row", "lines", "index", "call"]) (ps := ["row"]) T.f_row_text T.g_row_text ⟨rfl, rfl, rfl, by decide +kernel, rfl, by decide +kernel, by decide +kernel⟩ (fun _ _ _ _ _ _ us hl => match us, hl with | [_], _ => rfl)
    (fun vs H Q E h => by obtain ⟨v, d, n, rfl, hd, ft, hn, q⟩ := h; rfl) (fun cdv A outer s H vs Q E hr h => ?_)
  have nd : (["row", "lines", "index", "call"] : List Str).Nodup := by decide +kernel
  obtain ⟨v, d, n, rfl, hd, ft, hn, q⟩ := h
  refine ⟨_, (pss_cons (ps_if (pt_not (pt_val (pe_is .list T.b_isinstance (pv 0) T.b_list boot_list))) (pss_one (ps_raiseX K rfl (xi_NoRow T) rfl (takes_of rfl rfl rfl rfl) hr (pe_un un_neg pe_int))) pss_nil)
      (pss_cons (ps_set (i := 1) nd rfl (.inl rfl) (pe_lst pa_nil))
      (pss_cons (ps_for (passes_of rfl) rfl (pi_enum (by rfl) T.b_enumerate (pa_cons (pv 0) pa_nil)) (pg_two K 2 3 rfl rfl nd rfl rfl (.inl rfl) (.inl rfl) (.inr rfl) (.inr rfl)) (pss_cons (ps_if (pt_not (pt_val (pe_ca (ca_is_call T) hr (pa_cons (pv 3) pa_nil)))) (pss_one (ps_raiseX K rfl (xi_NoRow T) rfl (takes_of rfl rfl rfl rfl) hr (pv 2))) pss_nil)
      (pss_one (ps_expr (pe_bm PySem.F.plainAttrs_list PySem.F.slot_list_append PySem.F.type_list_append mt_append (pv 1) (pa_cons (pe_joined (PJ.cons (pe_fmt (pe_ix ix_tup (pv 3) pe_int (fun _ _ => rfl))) (PJ.cons pe_str (PJ.cons (pe_fmt (pe_ix ix_tup (pv 3) pe_int (fun _ _ => rfl))) PJ.nil)))) pa_nil))))))
      (pss_one (ps_ret (pe_join pe_str (pv 1))))))), ?_⟩
  have kd := dp_kd hd
  refine ⟨_, rfl, _, _, rfl, kd, _, rfl, ?_⟩
  cases hd with
  | @lst a xs ds h1 h2 =>
    have q : Ret K H Q E (match runL asCall ds with | .inl i => .bad "NoRow" "index" (i : Nat) | .inr cs => .ok (.str (Txt.join ("\n" : Str) (cs.map callL)))) := q
    obtain ⟨m, rfl, hl, hf⟩ : ∃ m, n = m + 1 ∧ ds.length ≤ 100000 ∧ ∀ d ∈ ds, fit m d := by
      cases n with
      | zero => exact ft.elim
      | succ m => exact ⟨m, rfl, ft⟩
    have lx := dps_len h2
    refine iteF ⟨(by show 0 ≤ sizeLine; exact Nat.zero_le _), fun D nD => ?_⟩
    have s0 : Same H (upd H D (.lst [])) := same_new nD
    refine ⟨_, rfl, a, xs, rfl, s0.seq h1, for_it (n := xs.length) walk_enum (fun i σ' H' => ∃ (x2 x3 : Option V) (cs : List (Str × Int)), σ' = [some (.ref a), some (.ref D), x2, x3] ∧ Same H H' ∧ H' D = some (.lst ((cs.map callL).map V.str)) ∧ Paired (fun d c => asCall d = some c) (ds.take i) cs) ⟨none, none, [], rfl, s0, upd_same, .nil⟩ (fun i σ' H' _ ⟨_, _, _, _, s, _⟩ => s.seq h1) ?_ ?_⟩
    · rintro i x σ' H1 H2 hi ⟨x2, x3, cs, rfl, s, hD, pc⟩ ⟨T, u, b, rfl, hT, rfl, ea, eb⟩
      cases (Option.some.inj ea)
      obtain ⟨dd, ed, hdd⟩ := dps_get h2 eb
      have w1 : Same H1 (upd H1 T (.tup [.int (i : Nat), b])) := same_new hT
      have hD2 := w1 _ _ hD
      have s2 := s.trans w1
      have hb := dp_same s2 hdd
      refine ⟨T, _, rfl, .of upd_same, rfl, _, _, rfl, _, _, rfl, rfl, ?_⟩
      generalize upd H1 T (.tup [.int (i : Nat), b]) = G at hD2 s2 hb ⊢
      refine ⟨_, rfl, b, dd, m, rfl, hb, hf dd (List.mem_of_getElem? ed), _, rfl, ?_⟩
      cases ec : asCall dd with
      | none =>
        rw [runL_bad pc ed ec] at q
        exact iteT ⟨_, rfl, fun e ne => q G e s2 ne⟩
      | some c =>
        obtain ⟨rfl, okc⟩ := asCall_ok ec
        obtain ⟨t, y, z, rfl, ht, hy, hz⟩ := dp2 hb
        cases dp_str hy
        cases dp_int hz
        refine iteF ?_
        obtain ⟨n1, n2, n3⟩ := callL_line okc
        have l1 : (" " : Str).length = 1 := by decide +kernel
        have n8 := okc.1.2.1
        have d9 : 0 ≤ c.2 ∧ c.2 ≤ 9 := ⟨okc.2.1, by have := okc.2.2; omega⟩
        refine ⟨_, rfl, .inl ⟨rfl, _, .of hD2⟩, ?_⟩
        refine ⟨_, rfl, _, _, _, _, rfl, rfl, ht, at0, .inl ⟨_, rfl, by rw [sizeLine_eq]; omega, _, rfl, ?_⟩⟩
        rw [empty_app]
        refine ⟨by rw [sizeLine_eq]; omega, _, rfl, by rw [sizeLine_eq, len_app, l1]; omega, ?_⟩
        refine ⟨_, rfl, _, _, _, _, rfl, rfl, ht, at1, .inr ⟨_, rfl, dig_log d9, _, rfl, ?_⟩⟩
        rw [dig_str d9]
        refine ⟨by rw [sizeLine_eq, len_app, len_app, l1, len_dg]; omega, ?_⟩
        have lc := Paired.length pc
        rw [List.length_take] at lc
        refine ⟨D, _, _, rfl, rfl, hD2, by rw [List.length_map, List.length_map, ← lc, sizeLine_eq]; omega, _, _, cs ++ [c], rfl, fun b o e => ?_, ?_, paired_snoc pc ed ec⟩
        · rw [upd_ne (ne_of_none e nD)]
          exact s2 _ _ e
        · rw [upd_same, List.map_append, List.map_append]
          rfl
    · rintro σ' H1 ⟨x2, x3, cs, rfl, s, hD, pc⟩
      have pc := paired_full lx pc
      rw [runL_all pc] at q
      have lc := Paired.length pc
      refine ⟨⟨_, rfl⟩, _, rfl, _, D, cs.map callL, rfl, rfl, .inl (.of hD), ?_, q _ H1 s (.str _)⟩
      have h1 := sum_len (ss := cs.map callL) (k := 10) fun x hx => by
        obtain ⟨c, hc, rfl⟩ := List.mem_map.mp hx
        obtain ⟨d, hd, e⟩ := paired_mem pc c hc
        exact (callL_line (asCall_ok e).2).2.2
      have e0 : ("\n" : Str).length = 1 := by decide +kernel
      rw [List.length_map] at h1
      rw [e0, List.length_map]
      omega
  | _ => exact iteT ⟨_, rfl, fun dd nd2 => q H dd (Same.refl _) nd2⟩
theorem cx_weaving_text (T : Txt w K mg) : CaX P w K mg base 7 "weaving_text" (spTx K wvgR) := by
  refine ca_ofX (N := ["weaving", "lines", "index", "item"]) (ps := ["weaving"]) T.f_weaving_text T.g_weaving_text ⟨rfl, rfl, rfl, by decide +kernel, rfl, by decide +kernel, by decide +kernel⟩ (fun _ _ _ _ _ _ us hl => match us, hl with | [_], _ => rfl)
    (fun vs H Q E h => by obtain ⟨v, d, n, rfl, hd, ft, hn, q⟩ := h; rfl) (fun cdv A outer s H vs Q E hr h => ?_)
  have nd : (["weaving", "lines", "index", "item"] : List Str).Nodup := by decide +kernel
  obtain ⟨v, d, n, rfl, hd, ft, hn, q⟩ := h
  refine ⟨_, (pss_cons (ps_if (pt_not (pt_val (pe_is .list T.b_isinstance (pv 0) T.b_list boot_list))) (pss_one (ps_raiseX K rfl (xi_NoWeaving T) rfl (takes_of rfl rfl rfl rfl) hr (pe_un un_neg pe_int))) pss_nil)
      (pss_cons (ps_set (i := 1) nd rfl (.inl rfl) (pe_lst pa_nil))
      (pss_cons (ps_for (passes_of rfl) rfl (pi_enum (by rfl) T.b_enumerate (pa_cons (pv 0) pa_nil)) (pg_two K 2 3 rfl rfl nd rfl rfl (.inl rfl) (.inl rfl) (.inr rfl) (.inr rfl)) (pss_cons (ps_if (pt_not (pt_val (pe_ca (ca_is_item T) hr (pa_cons (pv 3) pa_nil)))) (pss_one (ps_raiseX K rfl (xi_NoWeaving T) rfl (takes_of rfl rfl rfl rfl) hr (pv 2))) pss_nil)
      (pss_one (ps_if (pt_cmpR op_eq (pe_ix ix_tup (pv 3) pe_int (fun _ _ => rfl)) pe_str (nomark _)) (pss_one (ps_expr (pe_bm PySem.F.plainAttrs_list PySem.F.slot_list_append PySem.F.type_list_append mt_append (pv 1) (pa_cons (pe_joined (PJ.cons pe_str (PJ.cons (pe_fmt (pe_ix ix_tup (pv 3) pe_int (fun _ _ => rfl))) (PJ.cons pe_str (PJ.cons (pe_fmt (pe_ix ix_tup (pe_ix ix_tup (pv 3) pe_int (fun _ _ => rfl)) pe_int (fun _ _ => rfl))) (PJ.cons pe_str (PJ.cons (pe_fmt (pe_ix ix_tup (pe_ix ix_tup (pv 3) pe_int (fun _ _ => rfl)) pe_int (fun _ _ => rfl))) PJ.nil))))))) pa_nil)))) (pss_one (ps_expr (pe_bm PySem.F.plainAttrs_list PySem.F.slot_list_append PySem.F.type_list_append mt_append (pv 1) (pa_cons (pe_joined (PJ.cons pe_str (PJ.cons (pe_fmt (pe_ix ix_tup (pv 3) pe_int (fun _ _ => rfl))) PJ.nil))) pa_nil))))))))
      (pss_one (ps_ret (pe_join pe_str (pv 1))))))), ?_⟩
  have kd := dp_kd hd
  refine ⟨_, rfl, _, _, rfl, kd, _, rfl, ?_⟩
  cases hd with
  | @lst r xs ds h1 h2 =>
    have q : Ret K H Q E (match runL asItem ds with | .inl i => .bad "NoWeaving" "index" (i : Nat) | .inr cs => .ok (.str (Txt.join ("\n" : Str) (cs.map itemL)))) := q
    obtain ⟨m, rfl, hl, hf⟩ : ∃ m, n = m + 1 ∧ ds.length ≤ 100000 ∧ ∀ d ∈ ds, fit m d := by
      cases n with
      | zero => exact ft.elim
      | succ m => exact ⟨m, rfl, ft⟩
    have lx := dps_len h2
    refine iteF ⟨(by show 0 ≤ sizeLine; exact Nat.zero_le _), fun D nD => ?_⟩
    have s0 : Same H (upd H D (.lst [])) := same_new nD
    refine ⟨_, rfl, r, xs, rfl, s0.seq h1, for_it (n := xs.length) walk_enum (fun i σ' H' => ∃ (x2 x3 : Option V) (cs : List Itm), σ' = [some (.ref r), some (.ref D), x2, x3] ∧ Same H H' ∧ H' D = some (.lst ((cs.map itemL).map V.str)) ∧ Paired (fun d c => asItem d = some c) (ds.take i) cs) ⟨none, none, [], rfl, s0, upd_same, .nil⟩ (fun i σ' H' _ ⟨_, _, _, _, s, _⟩ => s.seq h1) ?_ ?_⟩
    · rintro i x σ' H1 H2 hi ⟨x2, x3, cs, rfl, s, hD, pc⟩ ⟨T, w, b, rfl, hT, rfl, ea, eb⟩
      cases (Option.some.inj ea)
      obtain ⟨dd, ed, hdd⟩ := dps_get h2 eb
      have w1 : Same H1 (upd H1 T (.tup [.int (i : Nat), b])) := same_new hT
      have hD2 := w1 _ _ hD
      have s2 := s.trans w1
      have hb := dp_same s2 hdd
      refine ⟨T, _, rfl, .of upd_same, rfl, _, _, rfl, _, _, rfl, rfl, ?_⟩
      generalize upd H1 T (.tup [.int (i : Nat), b]) = G at hD2 s2 hb ⊢
      refine ⟨_, rfl, b, dd, m, rfl, hb, hf dd (List.mem_of_getElem? ed), by omega, _, rfl, ?_⟩
      cases ec : asItem dd with
      | none =>
        rw [runL_bad pc ed ec] at q
        exact iteT ⟨_, rfl, fun e ne => q G e s2 ne⟩
      | some c =>
        obtain ⟨rfl, okc⟩ := asItem_ok ec
        refine iteF ?_
        have lc := Paired.length pc
        rw [List.length_take] at lc
        have fin : G D = some (.lst ((cs.map itemL).map V.str)) ∧ ((cs.map itemL).map V.str).length < sizeLine ∧ ∃ (y2 y3 : Option V) (cs2 : List Itm), [some (V.ref r), some (V.ref D), some (V.int (i : Nat)), some b] = [some (.ref r), some (.ref D), y2, y3] ∧ Same H (upd G D (.lst ((cs.map itemL).map V.str ++ [.str (itemL c)]))) ∧ (upd G D (.lst ((cs.map itemL).map V.str ++ [.str (itemL c)]))) D = some (.lst ((cs2.map itemL).map V.str)) ∧ Paired (fun d c => asItem d = some c) (ds.take (i + 1)) cs2 := by
          refine ⟨hD2, by rw [List.length_map, List.length_map, ← lc, sizeLine_eq]; omega, _, _, cs ++ [c], rfl, fun b o e => ?_, ?_, paired_snoc pc ed ec⟩
          · rw [upd_ne (ne_of_none e nD)]
            exact s2 _ _ e
          · rw [upd_same, List.map_append, List.map_append]
            rfl
        have l1 : (" " : Str).length = 1 := by decide +kernel
        have l5 : ("step " : Str).length = 5 := by decide +kernel
        have l6 : ("call " : Str).length = 5 := by decide +kernel
        cases c with
        | step h =>
          obtain ⟨t, y, z, rfl, ht, hy, hz⟩ := dp2 hb
          cases dp_str hy
          cases dp_int hz
          have d9 : 0 ≤ h ∧ h ≤ 9 := ⟨okc.1, by have := okc.2; omega⟩
          refine ⟨_, rfl, _, _, _, _, rfl, rfl, ht, at0, rfl, _, rfl, iteF ?_⟩
          refine ⟨_, rfl, .inl ⟨rfl, _, .of hD2⟩, ?_⟩
          refine ⟨_, rfl, by rw [sizeLine_eq]; decide +kernel, _, rfl, _, _, _, _, rfl, rfl, ht, at1, .inr ⟨_, rfl, dig_log d9, _, rfl, ?_⟩⟩
          rw [dig_str d9, empty_app]
          refine ⟨by rw [sizeLine_eq, len_app, l5, len_dg]; omega, ?_⟩
          exact ⟨D, _, _, rfl, rfl, fin.1, fin.2.1, fin.2.2⟩
        | call h c =>
          obtain ⟨t, y, z, u, rfl, ht, hy, hz, hu⟩ := dp3 hb
          cases dp_str hy
          cases dp_int hz
          obtain ⟨t2, y2, z2, rfl, ht2, hy2, hz2⟩ := dp2 hu
          cases dp_str hy2
          cases dp_int hz2
          have d9 : 0 ≤ h ∧ h ≤ 9 := ⟨okc.1.1, by have := okc.1.2; omega⟩
          have d8 : 0 ≤ c.2 ∧ c.2 ≤ 9 := ⟨okc.2.2.1, by have := okc.2.2.2; omega⟩
          have n8 := okc.2.1.2.1
          refine ⟨_, rfl, _, _, _, _, rfl, rfl, ht, at0, rfl, _, rfl, iteT ?_⟩
          refine ⟨_, rfl, .inl ⟨rfl, _, .of hD2⟩, ?_⟩
          refine ⟨_, rfl, by rw [sizeLine_eq]; decide +kernel, _, rfl, _, _, _, _, rfl, rfl, ht, at1, .inr ⟨_, rfl, dig_log d9, _, rfl, ?_⟩⟩
          rw [dig_str d9, empty_app]
          refine ⟨by rw [sizeLine_eq, len_app, l6, len_dg]; omega, _, rfl, by rw [sizeLine_eq, len_app, len_app, l6, len_dg, l1]; omega, ?_⟩
          refine ⟨_, rfl, _, _, _, _, rfl, rfl, ht, at2, _, _, _, _, rfl, rfl, ht2, at0, .inl ⟨_, rfl, by rw [sizeLine_eq]; omega, _, rfl, by rw [sizeLine_eq, len_app, len_app, len_app, l6, len_dg, l1]; omega, ?_⟩⟩
          refine ⟨_, rfl, by rw [sizeLine_eq, len_app, len_app, len_app, len_app, l6, len_dg, l1]; omega, ?_⟩
          refine ⟨_, rfl, _, _, _, _, rfl, rfl, ht, at2, _, _, _, _, rfl, rfl, ht2, at1, .inr ⟨_, rfl, dig_log d8, _, rfl, ?_⟩⟩
          rw [dig_str d8]
          refine ⟨by rw [sizeLine_eq, len_app, len_app, len_app, len_app, len_app, l6, len_dg, len_dg, l1]; omega, ?_⟩
          have el : ("call " : Str) ++ dg h ++ (" " : Str) ++ c.1 ++ (" " : Str) ++ dg c.2 = itemL (.call h c) := TL.ext_tl (by
            show _ = TL.tl (("call " : Str) ++ dg h ++ (" " : Str) ++ (c.1 ++ (" " : Str) ++ dg c.2))
            simp only [TL.tl_append, List.append_assoc])
          rw [el]
          exact ⟨D, _, _, rfl, rfl, fin.1, fin.2.1, fin.2.2⟩
    · rintro σ' H1 ⟨x2, x3, cs, rfl, s, hD, pc⟩
      have pc := paired_full lx pc
      rw [runL_all pc] at q
      have lc := Paired.length pc
      refine ⟨⟨_, rfl⟩, _, rfl, _, D, cs.map itemL, rfl, rfl, .inl (.of hD), ?_, q _ H1 s (.str _)⟩
      have h1 := sum_len (ss := cs.map itemL) (k := 20) fun x hx => by
        obtain ⟨c, hc, rfl⟩ := List.mem_map.mp hx
        obtain ⟨d, hd, e⟩ := paired_mem pc c hc
        exact (itemL_line (asItem_ok e).2).2.2
      have e0 : ("\n" : Str).length = 1 := by decide +kernel
      rw [List.length_map] at h1
      rw [e0, List.length_map]
      omega
  | _ => exact iteT ⟨_, rfl, fun dd nd2 => q H dd (Same.refl _) nd2⟩
end
end G

end M

set_option Elab.async false
set_option linter.all false
set_option maxRecDepth 100000
set_option maxHeartbeats 2000000
namespace M
open PySem PySem.Spec PyProof.Rows L2

def StOk (hs : List Int) : Prop := 1 ≤ hs.length ∧ hs.length ≤ 6 ∧ ∀ h ∈ hs, 0 ≤ h ∧ h ≤ 8
def asD : PyData → Option Int
  | .int i => if 0 ≤ i ∧ i ≤ 8 then some i else none
  | _ => none
theorem asD_ok {d : PyData} {i : Int} (h : asD d = some i) : d = .int i ∧ 0 ≤ i ∧ i ≤ 8 := by
  unfold asD at h
  split at h
  · split at h
    · rename_i o
      cases h
      exact ⟨rfl, o⟩
    · cases h
  · cases h
theorem asD_in (d : PyData) : (asD d).isSome = inR 0 8 d := by
  cases d with
  | int i =>
    show (if 0 ≤ i ∧ i ≤ 8 then some i else none).isSome = (decide (0 ≤ i) && decide (i ≤ 8))
    by_cases h : 0 ≤ i ∧ i ≤ 8
    · rw [if_pos h, decide_eq_true h.1, decide_eq_true h.2]
      rfl
    · rw [if_neg h]
      by_cases h3 : 0 ≤ i
      · rw [decide_eq_true h3, decide_eq_false (fun z => h ⟨h3, z⟩)]
        rfl
      · rw [decide_eq_false h3]
        rfl
  | _ => rfl
def stateV : PyData → Option (List Int)
  | .tuple ds => if 1 ≤ ds.length ∧ ds.length ≤ 6 then (match runL asD ds with
    | .inr hs => some hs
    | .inl _ => none) else none
  | _ => none
theorem asD_list : ∀ {ds : List PyData} {hs : List Int}, Paired (fun d h => asD d = some h) ds hs → ds = hs.map PyData.int ∧ ∀ h ∈ hs, 0 ≤ h ∧ h ≤ 8
  | _, _, .nil => ⟨rfl, fun h z => by cases z⟩
  | _, _, .cons e t => by
    obtain ⟨h1, h2⟩ := asD_list t
    obtain ⟨e1, e2⟩ := asD_ok e
    refine ⟨by rw [List.map_cons, ← h1, e1], fun h z => ?_⟩
    rcases List.mem_cons.mp z with z | z
    · exact z ▸ e2
    · exact h2 h z
theorem list_asD : ∀ {hs : List Int}, (∀ h ∈ hs, 0 ≤ h ∧ h ≤ 8) → Paired (fun d h => asD d = some h) (hs.map PyData.int) hs
  | [], _ => .nil
  | h :: r, o => .cons (if_pos (o h List.mem_cons_self)) (list_asD fun x hx => o x (List.mem_cons_of_mem _ hx))
theorem stateV_ok {d : PyData} {hs : List Int} (h : stateV d = some hs) : d = .tuple (hs.map PyData.int) ∧ StOk hs := by
  unfold stateV at h
  split at h
  · split at h
    · rename_i ds o
      split at h
      · rename_i gs e
        cases h
        obtain ⟨e1, e2⟩ := asD_list (runL_inr e)
        subst e1
        rw [List.length_map] at o
        exact ⟨rfl, o.1, o.2, e2⟩
      · cases h
    · cases h
  · cases h
theorem stateV_of {hs : List Int} (o : StOk hs) : stateV (.tuple (hs.map PyData.int)) = some hs := by
  show (if 1 ≤ (hs.map PyData.int).length ∧ (hs.map PyData.int).length ≤ 6 then (match runL asD (hs.map PyData.int) with | .inr hs => some hs | .inl _ => none) else none) = _
  rw [List.length_map, if_pos ⟨o.1, o.2.1⟩, runL_all (list_asD o.2.2)]
def stateR (d : PyData) : Rs := match stateV d with
  | some hs => .ok (.str (Txt.join (" " : Str) (hs.map dg)))
  | none => .bad0 "NoState"
theorem map_eq {α β : Type} {zs : List β} {xs : List α} {f : α → β} (l : zs.length = xs.length) (h : ∀ (i : Nat) (y : β), zs[i]? = some y → ∃ x, xs[i]? = some x ∧ y = f x) : zs = xs.map f := by
  refine List.ext_getElem? fun i => ?_
  rw [List.getElem?_map]
  by_cases c : i < zs.length
  · have e := List.getElem?_eq_getElem c
    obtain ⟨x, h1, h2⟩ := h i _ e
    rw [h1, e, h2]
    rfl
  · rw [List.getElem?_eq_none (by omega), List.getElem?_eq_none (by omega)]
    rfl
theorem dps_intsW {K : PySem.W.Frag} {H : Hp} : ∀ {xs : List V} {hs : List Int}, DpAll K H xs (hs.map PyData.int) → xs = hs.map V.int
  | [], [], _ => rfl
  | x :: xs, h :: hs, .cons a b => by
    cases dp_int a
    rw [dps_intsW b]
    rfl
namespace G
section
variable {P : Program} {w : World} {K : PySem.W.Frag} {mg : Str → Option Value} {base : Heap}
def spAnySt (K : PySem.W.Frag) : Sp := fun vs H Q _ => ∃ (v : V) (d : PyData), vs = [v] ∧ Dp K H v d ∧ Q (.bl (stateV d).isSome) H
theorem ca_is_any_state (T : Txt w K mg) : Ca P w K mg base 3 "is_any_state" (spAnySt K) := by
  refine ca_of (N := ["value", "held"]) (ps := ["value"]) T.f_is_any_state T.g_is_any_state ⟨rfl, rfl, rfl, by decide +kernel, rfl, by decide +kernel, by decide +kernel⟩ (fun _ _ _ _ _ _ us hl => match us, hl with | [_], _ => rfl)
    (fun vs H Q E h => by obtain ⟨v, d, rfl, hd, q⟩ := h; rfl) (fun cdv A outer s H vs Q E hr h => ?_)
  have nd : (["value", "held"] : List Str).Nodup := by decide +kernel
  obtain ⟨v, d, rfl, hd, q⟩ := h
  refine ⟨_, (pss_cons (ps_if (PW.pt (pw_or (pt_not (pt_val (pe_is .tuple T.b_isinstance (pv 0) T.b_tuple boot_tuple))) (pw_or1 (pt_not (pt_chain op_le op_le pe_int (pe_callB call_len_seq (by rfl) T.b_len PySem.boot_len (pa_cons (pv 0) pa_nil)) (pe_gi T.i_MOST_CELLS)))))) (pss_one (ps_ret pe_bl)) pss_nil)
      (pss_cons (ps_for PassesOwn.never rfl (pi_tup (pv 0)) (pg_name (i := 1) nd rfl (.inl rfl)) (pss_one (ps_if (pt_not (pt_val (pe_ca (ca_is_within T) hr (pa_cons (pv 1) (pa_cons pe_int (pa_cons (pe_op op_sub (pe_gi T.i_GREATEST_SIZE) pe_int) pa_nil)))))) (pss_one (ps_ret pe_bl)) pss_nil)))
      (pss_one (ps_ret pe_bl)))), ?_⟩
  have kd := dp_kd hd
  refine ⟨_, rfl, _, _, rfl, kd, _, rfl, ?_⟩
  cases hd with
  | @tup a xs ds h1 h2 =>
    have lx := dps_len h2
    have q : Q (.bl (if 1 ≤ ds.length ∧ ds.length ≤ 6 then (match runL asD ds with | .inr hs => some hs | .inl _ => none) else none).isSome) H := q
    refine iteF ⟨_, rfl, _, _, rfl, .inr h1, _, _, rfl, rfl, _, rfl, ?_⟩
    by_cases c1 : 1 ≤ ds.length
    case neg =>
      rw [if_neg (fun z => c1 z.1)] at q
      rw [decide_eq_false (show ¬ (1 : Int) ≤ (xs.length : Int) by omega)]
      exact iteF ⟨_, rfl, iteT q⟩
    rw [decide_eq_true (show (1 : Int) ≤ (xs.length : Int) by omega)]
    refine iteT ⟨_, _, rfl, rfl, _, rfl, ?_⟩
    by_cases c2 : ds.length ≤ 6
    case neg =>
      rw [if_neg (fun z => c2 z.2)] at q
      rw [decide_eq_false (show ¬ (xs.length : Int) ≤ 6 by omega)]
      exact iteT q
    rw [decide_eq_true (show (xs.length : Int) ≤ 6 by omega)]
    rw [if_pos ⟨c1, c2⟩] at q
    refine iteF ⟨_, rfl, a, rfl, ⟨_, h1⟩, for_it (n := xs.length) walk_tup (fun i σ' H' => ∃ x hs, σ' = [some (.ref a), x] ∧ H' = H ∧ Paired (fun d h => asD d = some h) (ds.take i) hs) ⟨none, [], rfl, rfl, .nil⟩ (fun i σ' H' _ ⟨_, _, _, e, _⟩ => e ▸ h1) ?_ ?_⟩
    · rintro i x σ' H' H2 hi ⟨_, hs, rfl, rfl, pc⟩ ⟨rfl, hx⟩
      obtain ⟨dd, ed, hdd⟩ := dps_get h2 hx
      refine ⟨_, rfl, _, _, rfl, rfl, x, dd, 0, _, rfl, hdd, _, rfl, ?_⟩
      show if (!inR 0 8 dd) = true then _ else _
      rw [← asD_in]
      cases ec : asD dd with
      | none =>
        rw [runL_bad pc ed ec] at q
        exact iteT q
      | some h => exact iteF ⟨_, _, rfl, rfl, paired_snoc pc ed ec⟩
    · rintro σ' H' ⟨_, hs, rfl, rfl, pc⟩
      rw [runL_all (paired_full lx pc)] at q
      exact q
  | _ => exact iteT q
theorem cx_state_text (T : Txt w K mg) : CaX P w K mg base 5 "state_text" (spTx K stateR) := by
  refine ca_ofX (N := ["state", "held"]) (ps := ["state"]) T.f_state_text T.g_state_text ⟨rfl, rfl, rfl, by decide +kernel, rfl, by decide +kernel, by decide +kernel⟩ (fun _ _ _ _ _ _ us hl => match us, hl with | [_], _ => rfl)
    (fun vs H Q E h => by obtain ⟨v, d, n, rfl, hd, ft, hn, q⟩ := h; rfl) (fun cdv A outer s H vs Q E hr h => ?_)
  have nd : (["state", "held"] : List Str).Nodup := by decide +kernel
  obtain ⟨v, d, n, rfl, hd, ft, hn, q⟩ := h
  refine ⟨_, (pss_cons (ps_if (pt_not (pt_val (pe_ca (ca_is_any_state T) hr (pa_cons (pv 0) pa_nil)))) (pss_one (ps_raise0 K rfl PySem.F.excBase_ValueError T.x_NoState T.g_NoState rfl (takes_of rfl rfl rfl rfl))) pss_nil)
      (pss_one (ps_ret (pe_join pe_str (pe_lc (own := [("held", 1)]) (tt := tYes) rfl nd (pi_tup (pv 0)) (blkOk_by (N := ["state", "held"]) (sc := defScope s_state_text) (by decide +kernel)) (fun _ _ _ _ _ => pg_name (i := 1) nd rfl (.inl rfl)) (fun _ _ _ _ _ => pts_nil) (fun _ _ _ _ _ => pe_callTy call_str_int (by rfl) T.b_str boot_str (pa_cons (pv 1) pa_nil))))))), ?_⟩
  refine ⟨_, rfl, v, d, rfl, hd, _, rfl, ?_⟩
  have q2 : Ret K H Q E (match stateV d with | some hs => .ok (.str (Txt.join (" " : Str) (hs.map dg))) | none => .bad0 "NoState") := q
  clear q
  cases es : stateV d with
  | none =>
    rw [es] at q2
    exact iteT (q2 H (Same.refl _))
  | some hs =>
    rw [es] at q2
    obtain ⟨rfl, ok⟩ := stateV_ok es
    obtain ⟨a, xs, rfl, ha, hxs⟩ := dp_tup hd
    cases dps_intsW hxs
    have l6 := ok.2.1
    refine iteF ?_
    refine ⟨⟨_, rfl⟩, _, rfl, a, rfl, ⟨_, ha⟩, fun D nD => ?_⟩
    refine lc_out (n := (hs.map V.int).length) walk_tup nD (by rw [List.length_map]; omega) (fun i y H => ∃ h, hs[i]? = some h ∧ y = .str (dg h)) (fun _ _ _ _ _ _ h => h) (fun H' s => same_t s ha) (fun i x H' H2 N F hi s y k => ?_) (fun H1 zs s1 hD el hz => ?_)
    · obtain ⟨rfl, hx⟩ := y
      obtain ⟨z, hz, rfl⟩ := get_map hx
      have b := ok.2.2 z (List.mem_of_getElem? hz)
      refine ⟨rfl, iteT ⟨_, rfl, _, rfl, dig_log ⟨b.1, by omega⟩, ?_⟩⟩
      rw [dig_str ⟨b.1, by omega⟩]
      exact k _ _ (Same.refl _) ⟨z, hz, rfl⟩
    · rw [List.length_map] at el
      have e : zs = (hs.map dg).map V.str := by
        rw [List.map_map]
        exact map_eq el hz
      rw [e] at hD
      refine ⟨_, D, hs.map dg, rfl, rfl, .inl (.of hD), ?_, q2 _ H1 s1 (.str _)⟩
      have h1 := sum_len (ss := hs.map dg) (k := 1) fun x hx => by
        obtain ⟨c, hc, rfl⟩ := List.mem_map.mp hx
        exact Nat.le_refl 1
      have l1 : (" " : Str).length = 1 := by decide +kernel
      rw [List.length_map] at h1
      rw [l1, List.length_map]
      omega
end
end G

end M

set_option Elab.async false
set_option linter.all false
set_option maxRecDepth 100000
set_option maxHeartbeats 2000000
namespace M
open PySem PySem.Spec PyProof.Rows L2

/-- what a line gives -/
def lineO (g : List Str → PyData) (l : Str) : Option PyData := match g (Txt.split l (" " : Str)) with
  | .none => none
  | d => some d
def readR (g : List Str → PyData) : PyData → Rs
  | .str t => if t = "" then .ok (.list []) else match runL (lineO g) (Txt.split t ("\n" : Str)) with
    | .inl i => .bad "NoText" "line" (i : Nat)
    | .inr ds => .ok (.list ds)
  | _ => .bad "NoText" "line" (-1)
theorem lineO_none {g : List Str → PyData} {l : Str} (h : lineO g l = none) : g (Txt.split l (" " : Str)) = .none := by
  unfold lineO at h
  split at h
  · assumption
  · cases h
theorem lineO_some {g : List Str → PyData} {l : Str} {d : PyData} (h : lineO g l = some d) : g (Txt.split l (" " : Str)) = d ∧ d ≠ .none := by
  unfold lineO at h
  split at h
  · cases h
  · rename_i n
    cases h
    exact ⟨rfl, fun z => n z⟩
def smallD (m : Int) (w : Str) : Option Int := (digI w).bind fun i => if i ≤ m then some i else none
theorem smallD_ok {m : Int} {w : Str} {i : Int} (h : smallD m w = some i) : w = dg i ∧ 0 ≤ i ∧ i ≤ 9 ∧ i ≤ m := by
  obtain ⟨j, hj, hq⟩ := Option.bind_eq_some_iff.mp h
  have := digI_ok hj
  split at hq
  · rename_i o
    cases hq
    exact ⟨this.1, this.2.1, this.2.2, o⟩
  · cases hq
theorem num_small {w : Str} {i : Int} (h : NumOf w i) : asD (.int i) = smallD 8 w := by
  show (if 0 ≤ i ∧ i ≤ 8 then some i else none) = (digI w).bind fun i => if i ≤ 8 then some i else none
  rcases h with h | ⟨h, h2⟩
  · have := digI_ok h
    rw [h, Option.bind_some]
    by_cases k : i ≤ 8
    · rw [if_pos k, if_pos ⟨this.2.1, k⟩]
    · rw [if_neg k, if_neg (fun z => k z.2)]
  · rw [h, if_neg (fun z => by omega)]
    rfl
theorem runL_small : ∀ {ws : List Str} {is : List Int}, Paired NumOf ws is → runL asD (is.map PyData.int) = runL (smallD 8) ws
  | _, _, .nil => rfl
  | w :: ws, i :: is, .cons h t => by
    have e := num_small h
    have k := runL_small t
    simp only [List.map_cons, runL]
    rw [e, k]
theorem get_mapC {α β : Type} {l : List α} {f : α → β} {i : Nat} {y : β} (h : (l.map f)[i]? = some y) : ∃ x, l[i]? = some x ∧ y = f x := by
  rw [List.getElem?_map] at h
  obtain ⟨x, h1, h2⟩ := Option.map_eq_some_iff.mp h
  exact ⟨x, h1, h2.symm⟩
def rdStR : PyData → Rs
  | .str t => match runL (smallD 8) (Txt.split t (" " : Str)) with
    | .inr hs => if hs.length ≤ 6 then .ok (.tuple (hs.map PyData.int)) else .bad "NoText" "line" 0
    | .inl _ => .bad "NoText" "line" 0
  | _ => .bad "NoText" "line" (-1)
theorem words_ok {t y : Str} {c : Nat} (hy : TL.tl y = [c]) (h : y.cps.all (· < 256) = true) (ht : t.length ≤ 50000 ∧ PyData.strOk t = true) : WordsOk (Txt.split t y) ∧ ∀ w ∈ Txt.split t y, w.length ≤ 50000 ∧ PyData.strOk w = true := by
  have m := split_many (x := t) hy h
  have k : ∀ w ∈ Txt.split t y, w.length ≤ 50000 ∧ PyData.strOk w = true := by
    intro w hw
    obtain ⟨_, h2, h3⟩ := split_free hy h hw
    refine ⟨by omega, strOk_of fun c hc => ?_⟩
    have z := h3 c hc
    have o := ht.2
    unfold PyData.strOk at o
    rw [Array.all_eq_true'] at o
    exact of_decide_eq_true (o c (by simpa [TL.tl] using z))
  exact ⟨⟨by omega, fun w hw => ⟨by have := (k w hw).1; omega, (k w hw).2⟩⟩, k⟩
/-- a text of such a size, or no text -/
def textOk : PyData → Prop
  | .str t => t.length ≤ 50000 ∧ PyData.strOk t = true
  | _ => True
namespace G
section
variable {P : Program} {w : World} {K : PySem.W.Frag} {mg : Str → Option Value} {base : Heap}
def spItems (K : PySem.W.Frag) (nm : Str) (g : List Str → PyData) : Sp := fun vs H Q E => ∃ (v : V) (d : PyData), vs = [v, .ref (He.ga K nm)] ∧ Dp K H v d ∧ textOk d ∧ (∀ ws, NoL (g ws)) ∧ Ret K H Q E (readR g d)
theorem cx_read_items {nm : Str} {g : List Str → PyData} (c : Cf P w K mg base 8 nm ["words"] (spLine K g))(T : Txt w K mg) : CaX P w K mg base 9 "read_items" (spItems K nm g) := by
  refine ca_ofX (N := ["text", "action", "items", "index", "line", "item"]) (ps := ["text", "action"]) T.f_read_items T.g_read_items ⟨rfl, rfl, rfl, by decide +kernel, rfl, by decide +kernel, by decide +kernel⟩ (fun _ _ _ _ _ _ us hl => match us, hl with | [_, _], _ => rfl)
    (fun vs H Q E h => by obtain ⟨v, d, rfl, hd, ht, hnl, q⟩ := h; rfl) (fun cdv A outer s H vs Q E hr h => ?_)
  have nd : (["text", "action", "items", "index", "line", "item"] : List Str).Nodup := by decide +kernel
  obtain ⟨v, d, rfl, hd, ht, hnl, q⟩ := h
  obtain ⟨fd, oc, od, osl, lk, F, hkp, hb⟩ := c.ex
  refine ⟨_, (pss_cons (ps_if (pt_not (pt_val (pe_is .str T.b_isinstance (pv 0) T.b_str boot_str))) (pss_one (ps_raiseX K rfl (xi_NoText T) rfl (takes_of rfl rfl rfl rfl) hr (pe_un un_neg pe_int))) pss_nil)
      (pss_cons (ps_if (pt_cmpR op_eq (pv 0) pe_str (nomark _)) (pss_one (ps_ret (pe_lst pa_nil))) pss_nil)
      (pss_cons (ps_set (i := 2) nd rfl (.inl rfl) (pe_lst pa_nil))
      (pss_cons (ps_for (passes_of rfl) rfl (pi_enum (by rfl) T.b_enumerate (pa_cons (pe_split (pv 0) pe_str) pa_nil)) (pg_two K 3 4 rfl rfl nd rfl rfl (.inl rfl) (.inl rfl) (.inr rfl) (.inr rfl)) (pss_cons (ps_set (i := 5) nd rfl (.inl rfl) (pe_callL (i := 1) (f := He.ga K nm) F hr rfl (.inl rfl) hkp hb .nil pass0 (pa_cons (pe_split (pv 4) pe_str) pa_nil)))
      (pss_cons (ps_if (pt_cmp (pc_isN (pv 5))) (pss_one (ps_raiseX K rfl (xi_NoText T) rfl (takes_of rfl rfl rfl rfl) hr (pv 3))) pss_nil)
      (pss_one (ps_expr (pe_bm PySem.F.plainAttrs_list PySem.F.slot_list_append PySem.F.type_list_append mt_append (pv 2) (pa_cons (pv 5) pa_nil)))))))
      (pss_one (ps_ret (pv 2))))))), ?_⟩
  have kd := dp_kd hd
  refine ⟨_, rfl, _, _, rfl, kd, _, rfl, ?_⟩
  cases hd with
  | str t =>
    have q2 : Ret K H Q E (if t = "" then .ok (.list []) else match runL (lineO g) (Txt.split t ("\n" : Str)) with | .inl i => .bad "NoText" "line" (i : Nat) | .inr ds => .ok (.list ds)) := q
    clear q
    refine iteF ⟨_, rfl, rfl, _, rfl, ?_⟩
    by_cases c0 : t = ""
    · rw [if_pos c0] at q2
      rw [decide_eq_true (show V.str t = V.str "" by rw [c0])]
      exact iteT ⟨(by show 0 ≤ sizeLine; exact Nat.zero_le _), fun z nz => q2 _ _ (same_new nz) (.lst (.of upd_same) .nil)⟩
    rw [if_neg c0] at q2
    rw [decide_eq_false (show ¬ V.str t = V.str "" from fun z => c0 (V.str.inj z))]
    refine iteF ⟨(by show 0 ≤ sizeLine; exact Nat.zero_le _), fun D nD => ?_⟩
    have s0 : Same H (upd H D (.lst [])) := same_new nD
    have tl50 := ht.1
    have wk := words_ok tl_nl nl_all ht
    have many := split_many (x := t) tl_nl nl_all
    refine ⟨_, rfl, ⟨_, rfl⟩, _, _, rfl, rfl, (by decide +kernel), by rw [sizeLine_eq]; omega, fun p np => ?_⟩
    generalize Txt.split t ("\n" : Str) = ls at q2 wk many ⊢
    have w0 := same_new (o := .lst (ls.map V.str)) np
    have hp0 : upd (upd H D (.lst [])) p (.lst (ls.map V.str)) p = some (.lst (ls.map V.str)) := upd_same
    have hD0 := w0 D _ (upd_same (H := H) (a := D) (o := .lst []))
    have sp0 := s0.trans w0
    generalize upd (upd H D (.lst [])) p (.lst (ls.map V.str)) = G0 at hp0 hD0 sp0 ⊢
    refine ⟨p, _, rfl, .of hp0, for_it (n := (ls.map V.str).length) walk_enum (fun i σ' H' => ∃ (x3 x4 x5 : Option V) (ys : List V) (ds : List PyData), σ' = [some (.str t), some (.ref (He.ga K nm)), some (.ref D), x3, x4, x5] ∧ (∀ b o, b ≠ D → G0 b = some o → H' b = some o) ∧ H' D = some (.lst ys) ∧ DpAll K H' ys ds ∧ Paired (fun l d => lineO g l = some d) (ls.take i) ds) ⟨none, none, none, [], [], rfl, (fun _ _ _ e => e), hD0, .nil, .nil⟩ (fun i σ' H' _ ⟨_, _, _, _, _, _, kp, _⟩ => .of (kp p _ (Ne.symm (ne_of_none (upd_same (H := H) (a := D) (o := .lst [])) np)) hp0)) ?_ ?_⟩
    · rintro i x σ' H1 H2 hi ⟨x3, x4, x5, ys, ds, rfl, kp, hD, hys, pc⟩ ⟨Tu, a, b, rfl, hT, rfl, ea, eb⟩
      cases (Option.some.inj ea)
      obtain ⟨l, el, rfl⟩ := get_mapC eb
      have ll := wk.2 l (List.mem_of_getElem? el)
      have w1 : Same H1 (upd H1 Tu (.tup [.int (i : Nat), .str l])) := same_new hT
      have hD1 := w1 _ _ hD
      have hys1 := dps_same w1 hys
      have kp1 : ∀ b o, b ≠ D → G0 b = some o → upd H1 Tu (.tup [.int (i : Nat), .str l]) b = some o := fun b o n e => w1 _ _ (kp b o n e)
      refine ⟨Tu, _, rfl, .of upd_same, rfl, _, _, rfl, _, _, rfl, rfl, ?_⟩
      generalize upd H1 Tu (.tup [.int (i : Nat), .str l]) = J1 at hD1 hys1 kp1 ⊢
      have hl50 := ll.1
      refine ⟨rfl, _, rfl, ⟨_, rfl⟩, _, _, rfl, rfl, (by decide +kernel), by rw [sizeLine_eq]; omega, fun ws nws => ?_⟩
      refine ⟨ws, Txt.split l (" " : Str), rfl, .of upd_same, (words_ok tl_sp sp_all ll).1, fun v J' s dv => ?_⟩
      have w2 := (same_new (o := .lst ((Txt.split l (" " : Str)).map V.str)) nws).trans s
      have hD2 := w2 _ _ hD1
      have same2 : Same H J' := fun b o e => w2 _ _ (kp1 b o (ne_of_none e nD) (sp0 _ _ e))
      cases ec : lineO g l with
      | none =>
        rw [runL_bad pc el ec] at q2
        rw [lineO_none ec] at dv
        cases dv
        exact ⟨_, rfl, _, rfl, iteT ⟨_, rfl, fun e ne => q2 J' e same2 ne⟩⟩
      | some d =>
        obtain ⟨eg, ne⟩ := lineO_some ec
        rw [eg] at dv
        have nl : NoL d := eg ▸ hnl _
        have nv : v ≠ .non := fun z => by
          subst z
          cases dv
          exact ne rfl
        have lc := Paired.length pc
        have ly := dps_len hys
        rw [List.length_take] at lc
        refine ⟨_, rfl, _, rfl, ?_⟩
        rw [decide_eq_false nv]
        refine iteF ⟨_, rfl, .inl ⟨rfl, _, .of hD2⟩, _, rfl, D, ys, _, rfl, rfl, hD2, by rw [sizeLine_eq]; omega, _, _, _, ys ++ [v], ds ++ [d], rfl, fun b o n e => ?_, upd_same, ?_, paired_snoc pc el ec⟩
        · rw [upd_ne n]
          exact w2 _ _ (kp1 b o n e)
        · have hn : ∀ d' ∈ ds, NoL d' := fun d' h => by
            obtain ⟨l', _, e'⟩ := paired_mem pc d' h
            exact (lineO_some e').1 ▸ hnl _
          exact dps_app (dps_but (.lst hD2) But.upd (dps_same w2 hys1) hn) (.cons (dp_but (.lst hD2) But.upd dv nl) .nil)
    · rintro σ' H1 ⟨x3, x4, x5, ys, ds, rfl, kp, hD, hys, pc⟩
      have pc := paired_full (List.length_map ..) pc
      rw [runL_all pc] at q2
      exact ⟨_, rfl, q2 _ _ (fun b o e => kp b o (ne_of_none e nD) (sp0 _ _ e)) (.lst (.of hD) hys)⟩
  | _ => exact iteT ⟨_, rfl, fun dd nd2 => q H dd (Same.refl _) nd2⟩
theorem callO_noL (o : Option (Str × Int)) : NoL (callO o) := by
  cases o with
  | none => exact .non
  | some c => exact callD_noL c
theorem itemO_noL (o : Option Itm) : NoL (itemO o) := by
  cases o with
  | none => exact .non
  | some c => exact itemD_noL c
def spRd (K : PySem.W.Frag) (f : PyData → Rs) : Sp := fun vs H Q E => ∃ (v : V) (d : PyData), vs = [v] ∧ Dp K H v d ∧ textOk d ∧ Ret K H Q E (f d)
theorem cx_read_row (T : Txt w K mg) : CaX P w K mg base 10 "read_row" (spRd K (readR fun ws => callO (lineCall ws))) := by
  refine ca_ofX (N := ["text"]) (ps := ["text"]) T.f_read_row T.g_read_row ⟨rfl, rfl, rfl, by decide +kernel, rfl, by decide +kernel, by decide +kernel⟩ (fun _ _ _ _ _ _ us hl => match us, hl with | [_], _ => rfl)
    (fun vs H Q E h => by obtain ⟨v, d, rfl, hd, ht, q⟩ := h; rfl) (fun cdv A outer s H vs Q E hr h => ?_)
  have nd : (["text"] : List Str).Nodup := by decide +kernel
  obtain ⟨v, d, rfl, hd, ht, q⟩ := h
  refine ⟨_, (pss_one (ps_ret (pe_caX (cx_read_items ((cf_call_in T).mono (by decide)) T) hr (takes_of rfl rfl rfl rfl) (pa_cons (pv 0) (pa_cons (pe_gr T.g_call_in) pa_nil))))), ?_⟩
  exact ⟨_, rfl, v, d, rfl, hd, ht, fun ws => callO_noL _, q⟩
theorem cx_read_weaving (T : Txt w K mg) : CaX P w K mg base 10 "read_weaving" (spRd K (readR fun ws => itemO (lineItem ws))) := by
  refine ca_ofX (N := ["text"]) (ps := ["text"]) T.f_read_weaving T.g_read_weaving ⟨rfl, rfl, rfl, by decide +kernel, rfl, by decide +kernel, by decide +kernel⟩ (fun _ _ _ _ _ _ us hl => match us, hl with | [_], _ => rfl)
    (fun vs H Q E h => by obtain ⟨v, d, rfl, hd, ht, q⟩ := h; rfl) (fun cdv A outer s H vs Q E hr h => ?_)
  have nd : (["text"] : List Str).Nodup := by decide +kernel
  obtain ⟨v, d, rfl, hd, ht, q⟩ := h
  refine ⟨_, (pss_one (ps_ret (pe_caX (cx_read_items ((cf_item_in T).mono (by decide)) T) hr (takes_of rfl rfl rfl rfl) (pa_cons (pv 0) (pa_cons (pe_gr T.g_item_in) pa_nil))))), ?_⟩
  exact ⟨_, rfl, v, d, rfl, hd, ht, fun ws => itemO_noL _, q⟩
end
end G

end M

set_option Elab.async false
set_option linter.all false
set_option maxRecDepth 100000
set_option maxHeartbeats 2000000
namespace M
open PySem PySem.Spec PyProof.Rows L2

theorem pick_ints : ∀ {ws : List Str} {zs : List V}, zs.length = ws.length → (∀ (i : Nat) (y : V), zs[i]? = some y → ∃ w h, ws[i]? = some w ∧ NumOf w h ∧ y = .int h) → ∃ is : List Int, Paired NumOf ws is ∧ zs = is.map V.int
  | [], [], _, _ => ⟨[], .nil, rfl⟩
  | [], _ :: _, l, _ => by cases l
  | _ :: _, [], l, _ => by cases l
  | w :: ws, z :: zs, l, h => by
    obtain ⟨w', i, e1, e2, e3⟩ := h 0 z rfl
    cases (Option.some.inj e1)
    obtain ⟨is, p, e⟩ := pick_ints (ws := ws) (zs := zs) (Nat.succ.inj l) fun j y hy => h (j + 1) y hy
    exact ⟨i :: is, .cons e2 p, by rw [e3, e]; rfl⟩
theorem stateV_ints {ws : List Str} {is : List Int} (p : Paired NumOf ws is) (h1 : 1 ≤ ws.length) : stateV (.tuple (is.map PyData.int)) = match runL (smallD 8) ws with
    | .inr hs => if hs.length ≤ 6 then some hs else none
    | .inl _ => none := by
  have l := Paired.length p
  show (if 1 ≤ (is.map PyData.int).length ∧ (is.map PyData.int).length ≤ 6 then (match runL asD (is.map PyData.int) with | .inr hs => some hs | .inl _ => none) else none) = _
  rw [List.length_map, runL_small p]
  cases e : runL (smallD 8) ws with
  | inl i =>
    by_cases c : 1 ≤ is.length ∧ is.length ≤ 6
    · rw [if_pos c]
    · rw [if_neg c]
  | inr hs =>
    have l2 := Paired.length (runL_inr e)
    by_cases c : hs.length ≤ 6
    · rw [if_pos (by omega)]
      dsimp only
      rw [if_pos c]
    · rw [if_neg (by omega)]
      dsimp only
      rw [if_neg c]
theorem ints_dp {K : PySem.W.Frag} {H : Hp} : ∀ is : List Int, DpAll K H (is.map V.int) (is.map PyData.int)
  | [] => .nil
  | i :: is => .cons (.int i) (ints_dp is)
namespace G
section
variable {P : Program} {w : World} {K : PySem.W.Frag} {mg : Str → Option Value} {base : Heap}
theorem cx_read_state (T : Txt w K mg) : CaX P w K mg base 5 "read_state" (spRd K rdStR) := by
  refine ca_ofX (N := ["text", "word", "state"]) (ps := ["text"]) T.f_read_state T.g_read_state ⟨rfl, rfl, rfl, by decide +kernel, rfl, by decide +kernel, by decide +kernel⟩ (fun _ _ _ _ _ _ us hl => match us, hl with | [_], _ => rfl)
    (fun vs H Q E h => by obtain ⟨v, d, rfl, hd, ht, q⟩ := h; rfl) (fun cdv A outer s H vs Q E hr h => ?_)
  have nd : (["text", "word", "state"] : List Str).Nodup := by decide +kernel
  obtain ⟨v, d, rfl, hd, ht, q⟩ := h
  refine ⟨_, (pss_cons (ps_if (pt_not (pt_val (pe_is .str T.b_isinstance (pv 0) T.b_str boot_str))) (pss_one (ps_raiseX K rfl (xi_NoText T) rfl (takes_of rfl rfl rfl rfl) hr (pe_un un_neg pe_int))) pss_nil)
      (pss_cons (ps_set (i := 2) nd rfl (.inl rfl) (pe_tupleOf (by rfl) T.b_tuple (pe_lc (own := [("word", 1)]) (tt := tYes) rfl nd (pi_list (pe_split (pv 0) pe_str)) (blkOk_by (N := ["text", "word", "state"]) (sc := defScope s_read_state) (by decide +kernel)) (fun _ _ _ _ _ => pg_name (i := 1) nd rfl (.inl rfl)) (fun _ _ _ _ _ => pts_nil) (fun _ _ _ _ _ => pe_ca (ca_number_in T) hr (pa_cons (pv 1) pa_nil)))))
      (pss_cons (ps_if (pt_not (pt_val (pe_ca (ca_is_any_state T) hr (pa_cons (pv 2) pa_nil)))) (pss_one (ps_raiseX K rfl (xi_NoText T) rfl (takes_of rfl rfl rfl rfl) hr pe_int)) pss_nil)
      (pss_one (ps_ret (pv 2)))))), ?_⟩
  have kd := dp_kd hd
  refine ⟨_, rfl, _, _, rfl, kd, _, rfl, ?_⟩
  cases hd with
  | str t =>
    have q2 : Ret K H Q E (match runL (smallD 8) (Txt.split t (" " : Str)) with | .inr hs => if hs.length ≤ 6 then .ok (.tuple (hs.map PyData.int)) else .bad "NoText" "line" 0 | .inl _ => .bad "NoText" "line" 0) := q
    clear q
    have tl50 := ht.1
    have wk := words_ok tl_sp sp_all ht
    have many := split_many (x := t) tl_sp sp_all
    refine iteF ⟨_, rfl, ⟨_, rfl⟩, _, _, rfl, rfl, (by decide +kernel), by rw [sizeLine_eq]; omega, fun p np => ?_⟩
    generalize Txt.split t (" " : Str) = ws at q2 wk many ⊢
    have s0 := same_new (o := .lst (ws.map V.str)) np
    have hp : upd H p (.lst (ws.map V.str)) p = some (.lst (ws.map V.str)) := upd_same
    generalize upd H p (.lst (ws.map V.str)) = G at s0 hp ⊢
    refine ⟨p, rfl, ⟨_, .of hp⟩, fun D nD => ?_⟩
    refine lc_out (n := (ws.map V.str).length) walk_list nD (by rw [List.length_map]; omega) (fun i y H => ∃ w h, ws[i]? = some w ∧ NumOf w h ∧ y = .int h) (fun _ _ _ _ _ _ h => h) (fun H' s => .of (s _ _ hp)) (fun i x H' H2 N F hi s y k => ?_) (fun H1 zs s1 hD el hz => ?_)
    · obtain ⟨rfl, hx⟩ := y
      obtain ⟨z, hz, rfl⟩ := get_mapC hx
      have lz := (wk.2 z (List.mem_of_getElem? hz)).1
      exact ⟨rfl, iteT ⟨_, rfl, z, rfl, by omega, fun j nj => k _ _ (Same.refl _) ⟨z, j, hz, nj, rfl⟩⟩⟩
    · rw [List.length_map] at el
      obtain ⟨is, pn, rfl⟩ := pick_ints el hz
      refine .inl ⟨D, _, rfl, .of hD, fun t2 nt => ?_⟩
      have s2 := same_new (o := .tup (is.map V.int)) nt
      have dt : Dp K (upd H1 t2 (.tup (is.map V.int))) (.ref t2) (.tuple (is.map PyData.int)) := .tup (.of upd_same) (ints_dp is)
      have sv := stateV_ints pn many.1
      have ss := (s0.trans s1).trans s2
      generalize upd H1 t2 (.tup (is.map V.int)) = J at ss dt ⊢
      refine ⟨_, rfl, _, _, rfl, dt, _, rfl, ?_⟩
      cases e : runL (smallD 8) ws with
      | inl i =>
        rw [e] at q2 sv
        rw [show (stateV (.tuple (is.map PyData.int))).isSome = false by rw [sv]; rfl]
        exact iteT fun dd nd2 => q2 _ dd ss nd2
      | inr hs =>
        rw [e] at q2 sv
        dsimp only at q2 sv
        by_cases c : hs.length ≤ 6
        · rw [if_pos c] at q2 sv
          have e3 := (stateV_ok sv).1
          rw [← e3] at q2
          rw [show (stateV (.tuple (is.map PyData.int))).isSome = true by rw [sv]; rfl]
          exact iteF ⟨_, rfl, q2 _ _ ss dt⟩
        · rw [if_neg c] at q2 sv
          rw [show (stateV (.tuple (is.map PyData.int))).isSome = false by rw [sv]; rfl]
          exact iteT fun dd nd2 => q2 _ dd ss nd2
  | _ => exact iteT ⟨_, rfl, fun dd nd2 => q H dd (Same.refl _) nd2⟩
end
end G

end M

set_option Elab.async false
set_option linter.all false
set_option maxRecDepth 100000
set_option maxHeartbeats 2000000
namespace M
open PySem PySem.Spec PyProof.Rows L2

/-! ### there and back -/
section
variable {α : Type} {as : PyData → Option α} {D : α → PyData} {L : α → Str} {g : List Str → PyData} {Ok : α → Prop}
theorem join_nil (y : Str) : Txt.join y [] = ("" : Str) := TL.ext_tl (by
  rw [TL.join_eq, TL.tl_join, show TL.tl ("" : Str) = [] by decide +kernel]
  rfl)
theorem join_ne {ls : List Str} (h0 : ls ≠ []) (h : ∀ l ∈ ls, 1 ≤ l.length) : Txt.join ("\n" : Str) ls ≠ ("" : Str) := fun e => by
  have e1 := congrArg TL.tl e
  rw [TL.join_eq, TL.tl_join, show TL.tl ("" : Str) = [] by decide +kernel] at e1
  cases ls with
  | nil => exact h0 rfl
  | cons l r =>
    have h1 := h l List.mem_cons_self
    rw [tl_len] at h1
    cases r with
    | nil =>
      have e1 : TL.tl l = [] := e1
      rw [e1] at h1
      exact absurd h1 (by decide)
    | cons m r =>
      have e1 : TL.tl l ++ (TL.tl ("\n" : Str) ++ TL.joinL (TL.tl ("\n" : Str)) ((m :: r).map TL.tl)) = [] := e1
      rw [(List.append_eq_nil_iff.mp e1).1] at h1
      exact absurd h1 (by decide)
theorem runs_lines (a1 : ∀ d c, as d = some c → d = D c ∧ Ok c) (g1 : ∀ c, Ok c → lineO g (L c) = some (D c)) : ∀ {ds : List PyData} {cs : List α}, Paired (fun d c => as d = some c) ds cs → Paired (fun l d => lineO g l = some d) (cs.map L) ds ∧ ∀ c ∈ cs, Ok c
  | _, _, .nil => ⟨.nil, fun c h => by cases h⟩
  | _, _, .cons h t => by
    obtain ⟨k1, k2⟩ := runs_lines a1 g1 t
    obtain ⟨rfl, o⟩ := a1 _ _ h
    refine ⟨.cons (g1 _ o) k1, fun c hc => ?_⟩
    rcases List.mem_cons.mp hc with e | hc
    · exact e ▸ o
    · exact k2 c hc
theorem rt1 (a1 : ∀ d c, as d = some c → d = D c ∧ Ok c) (g1 : ∀ c, Ok c → lineO g (L c) = some (D c)) (l1 : ∀ c, Ok c → 10 ∉ TL.tl (L c) ∧ 1 ≤ (L c).length) {ds : List PyData} {cs : List α} (h : runL as ds = .inr cs) :
    readR g (.str (Txt.join ("\n" : Str) (cs.map L))) = .ok (.list ds) := by
  obtain ⟨k1, k2⟩ := runs_lines a1 g1 (runL_inr h)
  show (if Txt.join ("\n" : Str) (cs.map L) = "" then Rs.ok (.list []) else match runL (lineO g) (Txt.split (Txt.join ("\n" : Str) (cs.map L)) ("\n" : Str)) with | .inl i => .bad "NoText" "line" (i : Nat) | .inr ds => .ok (.list ds)) = _
  by_cases c0 : cs = []
  · subst c0
    cases k1
    rw [show ([] : List α).map L = [] from rfl, join_nil, if_pos rfl]
  · have n0 : cs.map L ≠ [] := fun z => c0 (List.map_eq_nil_iff.mp z)
    have ll : ∀ l ∈ cs.map L, 10 ∉ TL.tl l ∧ 1 ≤ l.length := by
      intro l hl
      obtain ⟨c, hc, rfl⟩ := List.mem_map.mp hl
      exact l1 c (k2 c hc)
    rw [if_neg (join_ne n0 fun l hl => (ll l hl).2), TL.split_join tl_nl nl_all n0 fun l hl => (ll l hl).1, runL_all k1]
theorem lines_run (a2 : ∀ c, Ok c → as (D c) = some c) (g2 : ∀ l d, lineO g l = some d → ∃ c, Ok c ∧ l = L c ∧ d = D c) : ∀ {ls : List Str} {ds : List PyData}, Paired (fun l d => lineO g l = some d) ls ds → ∃ cs : List α, Paired (fun d c => as d = some c) ds cs ∧ ls = cs.map L
  | _, _, .nil => ⟨[], .nil, rfl⟩
  | _, _, .cons h t => by
    obtain ⟨cs, k1, k2⟩ := lines_run a2 g2 t
    obtain ⟨c, o, e1, e2⟩ := g2 _ _ h
    exact ⟨c :: cs, .cons (e2 ▸ a2 c o) k1, by rw [List.map_cons, ← k2, e1]⟩
theorem rt2 (a2 : ∀ c, Ok c → as (D c) = some c) (g2 : ∀ l d, lineO g l = some d → ∃ c, Ok c ∧ l = L c ∧ d = D c) {t : Str} {d : PyData} (h : readR g (.str t) = .ok d) :
    ∃ (ds : List PyData) (cs : List α), d = .list ds ∧ runL as ds = .inr cs ∧ Txt.join ("\n" : Str) (cs.map L) = t := by
  have h : (if t = "" then Rs.ok (.list []) else match runL (lineO g) (Txt.split t ("\n" : Str)) with | .inl i => .bad "NoText" "line" (i : Nat) | .inr ds => .ok (.list ds)) = Rs.ok d := h
  by_cases c0 : t = ""
  · rw [if_pos c0] at h
    cases h
    exact ⟨[], [], rfl, rfl, by rw [show ([] : List α).map L = [] from rfl, join_nil, c0]⟩
  · rw [if_neg c0] at h
    cases e : runL (lineO g) (Txt.split t ("\n" : Str)) with
    | inl i =>
      rw [e] at h
      cases h
    | inr ds =>
      rw [e] at h
      cases h
      obtain ⟨cs, k1, k2⟩ := lines_run a2 g2 (runL_inr e)
      exact ⟨ds, cs, rfl, runL_all k1, by rw [← k2]; exact split_back tl_nl nl_all⟩
end
theorem lineItem_ok {ws : List Str} {t : Itm} (z : lineItem ws = some t) : ItemOk t ∧ ws = wordsL t := by
  match ws, z with
  | [a, b], z =>
    have z : (if a = "step" then (digI b).bind (fun i => if i ≤ 1 then some (Itm.step i) else none) else none) = some t := z
    split at z
    · rename_i ha
      obtain ⟨j, hj, hq⟩ := Option.bind_eq_some_iff.mp z
      have := digI_ok hj
      split at hq
      · rename_i o
        cases hq
        exact ⟨⟨this.2.1, o⟩, by rw [ha, this.1]; rfl⟩
      · cases hq
    · cases z
  | [a, b, c, d], z =>
    have z : (if a = "call" then (digI b).bind (fun i => if i ≤ 1 then (lineCall [c, d]).map (Itm.call i) else none) else none) = some t := z
    split at z
    · rename_i ha
      obtain ⟨j, hj, hq⟩ := Option.bind_eq_some_iff.mp z
      have := digI_ok hj
      split at hq
      · rename_i o
        obtain ⟨q, hq1, hq2⟩ := Option.map_eq_some_iff.mp hq
        obtain ⟨o2, e2⟩ := lineCall_ok hq1
        cases hq2
        refine ⟨⟨⟨this.2.1, o⟩, o2⟩, ?_⟩
        rw [ha, this.1]
        cases e2
        rfl
      · cases hq
    · cases z
theorem lineCall_of {c : Str × Int} (h : CallOk c) : lineCall [c.1, dg c.2] = some c := by
  show ((digI (dg c.2)).bind fun i => if NameOk c.1 ∧ i ≤ 8 then some (c.1, i) else none) = some c
  rw [digI_dg ⟨h.2.1, by have := h.2.2; omega⟩, Option.bind_some, if_pos ⟨h.1, h.2.2⟩]
theorem lineItem_of {t : Itm} (h : ItemOk t) : lineItem (wordsL t) = some t := by
  cases t with
  | step i =>
    show (if ("step" : Str) = "step" then (digI (dg i)).bind (fun i => if i ≤ 1 then some (Itm.step i) else none) else none) = _
    rw [if_pos rfl, digI_dg ⟨h.1, by have := h.2; omega⟩, Option.bind_some, if_pos h.2]
  | call i c =>
    show (if ("call" : Str) = "call" then (digI (dg i)).bind (fun i => if i ≤ 1 then (lineCall [c.1, dg c.2]).map (Itm.call i) else none) else none) = _
    rw [if_pos rfl, digI_dg ⟨h.1.1, by have := h.1.2; omega⟩, Option.bind_some, if_pos h.1.2, lineCall_of h.2]
    rfl
abbrev gC : List Str → PyData := fun ws => callO (lineCall ws)
abbrev gI : List Str → PyData := fun ws => itemO (lineItem ws)
theorem gC_of {c : Str × Int} (h : CallOk c) : lineO gC (callL c) = some (callD c) := by
  unfold lineO gC
  rw [split_call h, lineCall_of h]
  rfl
theorem gI_of {t : Itm} (h : ItemOk t) : lineO gI (itemL t) = some (itemD t) := by
  unfold lineO gI
  rw [split_item h, lineItem_of h]
  cases t <;> rfl
theorem gC_ok {l : Str} {d : PyData} (h : lineO gC l = some d) : ∃ c, CallOk c ∧ l = callL c ∧ d = callD c := by
  obtain ⟨e, n⟩ := lineO_some h
  cases z : lineCall (Txt.split l (" " : Str)) with
  | none =>
    have e : callO (lineCall (Txt.split l (" " : Str))) = d := e
    rw [z] at e
    exact absurd e.symm n
  | some c =>
    have e : callO (lineCall (Txt.split l (" " : Str))) = d := e
    rw [z] at e
    obtain ⟨o, w⟩ := lineCall_ok z
    exact ⟨c, o, by rw [callL_words, ← w, split_back tl_sp sp_all], e.symm⟩
theorem gI_ok {l : Str} {d : PyData} (h : lineO gI l = some d) : ∃ c, ItemOk c ∧ l = itemL c ∧ d = itemD c := by
  obtain ⟨e, n⟩ := lineO_some h
  cases z : lineItem (Txt.split l (" " : Str)) with
  | none =>
    have e : itemO (lineItem (Txt.split l (" " : Str))) = d := e
    rw [z] at e
    exact absurd e.symm n
  | some c =>
    have e : itemO (lineItem (Txt.split l (" " : Str))) = d := e
    rw [z] at e
    obtain ⟨o, w⟩ := lineItem_ok z
    exact ⟨c, o, by rw [itemL_words, ← w, split_back tl_sp sp_all], e.symm⟩
def wrR (s : Int) (d : PyData) : Rs := if s = 0 then rowR d else if s = 1 then wvgR d else stateR d
def rdR (s : Int) (d : PyData) : Rs := if s = 0 then readR gC d else if s = 1 then readR gI d else rdStR d
theorem small_of : ∀ {hs : List Int}, (∀ h ∈ hs, 0 ≤ h ∧ h ≤ 8) → Paired (fun w h => smallD 8 w = some h) (hs.map dg) hs
  | [], _ => .nil
  | h :: r, o => by
    have b := o h List.mem_cons_self
    refine .cons ?_ (small_of fun x hx => o x (List.mem_cons_of_mem _ hx))
    show ((digI (dg h)).bind fun i => if i ≤ 8 then some i else none) = some h
    rw [digI_dg ⟨b.1, by omega⟩, Option.bind_some, if_pos b.2]
theorem small_list : ∀ {ws : List Str} {hs : List Int}, Paired (fun w h => smallD 8 w = some h) ws hs → ws = hs.map dg ∧ ∀ h ∈ hs, 0 ≤ h ∧ h ≤ 8
  | _, _, .nil => ⟨rfl, fun h z => by cases z⟩
  | _, _, .cons e t => by
    obtain ⟨h1, h2⟩ := small_list t
    obtain ⟨e1, e2, _, e3⟩ := smallD_ok e
    refine ⟨by rw [List.map_cons, ← h1, e1], fun h z => ?_⟩
    rcases List.mem_cons.mp z with z | z
    · exact z ▸ ⟨e2, e3⟩
    · exact h2 h z
theorem written_read {s : Int} {d e : PyData} (h : wrR s d = .ok e) : ∃ t, e = .str t ∧ rdR s (.str t) = .ok d := by
  unfold wrR at h
  by_cases h0 : s = 0
  · rw [if_pos h0] at h
    have rdE : ∀ t, rdR s (.str t) = readR gC (.str t) := fun t => if_pos h0
    unfold rowR at h
    split at h
    · split at h
      · cases h
      · rename_i cs hc
        cases h
        exact ⟨_, rfl, (rdE _).trans (rt1 (Ok := CallOk) (fun d c => asCall_ok) (fun c => gC_of) (fun c o => ⟨(callL_line o).1, (callL_line o).2.1⟩) hc)⟩
    · cases h
  rw [if_neg h0] at h
  by_cases h1 : s = 1
  · rw [if_pos h1] at h
    have rdE : ∀ t, rdR s (.str t) = readR gI (.str t) := fun t => (if_neg h0).trans (if_pos h1)
    unfold wvgR at h
    split at h
    · split at h
      · cases h
      · rename_i cs hc
        cases h
        exact ⟨_, rfl, (rdE _).trans (rt1 (Ok := ItemOk) (fun d c => asItem_ok) (fun c => gI_of) (fun c o => ⟨(itemL_line o).1, (itemL_line o).2.1⟩) hc)⟩
    · cases h
  rw [if_neg h1] at h
  have rdE : ∀ t, rdR s (.str t) = rdStR (.str t) := fun t => (if_neg h0).trans (if_neg h1)
  unfold stateR at h
  split at h
  · rename_i hs hv
    cases h
    obtain ⟨rfl, o⟩ := stateV_ok hv
    refine ⟨_, rfl, (rdE _).trans ?_⟩
    have n0 : hs.map dg ≠ [] := fun z => by
      have := o.1
      rw [List.map_eq_nil_iff.mp z] at this
      exact absurd this (by decide)
    show (match runL (smallD 8) (Txt.split (Txt.join (" " : Str) (hs.map dg)) (" " : Str)) with | .inr hs => if hs.length ≤ 6 then Rs.ok (.tuple (hs.map PyData.int)) else .bad "NoText" "line" 0 | .inl _ => .bad "NoText" "line" 0) = _
    rw [TL.split_join tl_sp sp_all n0 fun l hl => by
      obtain ⟨i, hi, rfl⟩ := List.mem_map.mp hl
      exact dg_free (o.2.2 i hi) (by decide), runL_all (small_of o.2.2)]
    dsimp only
    rw [if_pos o.2.1]
  · cases h
theorem read_written {s : Int} {t : Str} {d : PyData} (h : rdR s (.str t) = .ok d) : wrR s d = .ok (.str t) := by
  unfold rdR at h
  unfold wrR
  by_cases h0 : s = 0
  · rw [if_pos h0] at h ⊢
    obtain ⟨ds, cs, rfl, hc, rfl⟩ := rt2 (Ok := CallOk) (fun c => asCall_of) (fun l d => gC_ok) h
    show (match runL asCall ds with | .inl i => Rs.bad "NoRow" "index" (i : Nat) | .inr cs => .ok (.str (Txt.join ("\n" : Str) (cs.map callL)))) = _
    rw [hc]
  rw [if_neg h0] at h ⊢
  by_cases h1 : s = 1
  · rw [if_pos h1] at h ⊢
    obtain ⟨ds, cs, rfl, hc, rfl⟩ := rt2 (Ok := ItemOk) (fun c => asItem_of) (fun l d => gI_ok) h
    show (match runL asItem ds with | .inl i => Rs.bad "NoWeaving" "index" (i : Nat) | .inr cs => .ok (.str (Txt.join ("\n" : Str) (cs.map itemL)))) = _
    rw [hc]
  rw [if_neg h1] at h ⊢
  have h : (match runL (smallD 8) (Txt.split t (" " : Str)) with | .inr hs => if hs.length ≤ 6 then Rs.ok (.tuple (hs.map PyData.int)) else .bad "NoText" "line" 0 | .inl _ => .bad "NoText" "line" 0) = Rs.ok d := h
  cases e : runL (smallD 8) (Txt.split t (" " : Str)) with
  | inl i =>
    rw [e] at h
    cases h
  | inr hs =>
    rw [e] at h
    dsimp only at h
    split at h
    · rename_i l6
      cases h
      have p := runL_inr e
      have lp := Paired.length p
      obtain ⟨w1, w2⟩ := small_list p
      have many := split_many (x := t) tl_sp sp_all
      have ok : StOk hs := ⟨by omega, l6, w2⟩
      unfold stateR
      rw [stateV_of ok]
      dsimp only
      rw [← w1, split_back tl_sp sp_all]
    · cases h

end M

set_option Elab.async false
set_option linter.all false
set_option maxRecDepth 100000
set_option maxHeartbeats 2000000
namespace M
open PySem PySem.Spec PyProof.Rows L2

/-! ### displays of told data -/
section
variable {X : Cx} {K : PySem.W.Frag} {B : Hp} {e : Expr} {es : List Expr} {pos : Pos} {d : PyData} {ds : List PyData}
/-- what is new since B -/
def less (B H : Hp) : Hp := fun a => match B a with
  | some _ => none
  | none => H a
theorem less_at {B H : Hp} {a : Addr} (n : B a = none) : less B H a = H a := by
  unfold less
  rw [n]
theorem less_of {B H : Hp} {a : Addr} {o : HO} (h : less B H a = some o) : B a = none ∧ H a = some o := by
  unfold less at h
  split at h
  · cases h
  · rename_i n
    exact ⟨n, h⟩
theorem less_same {B H H' : Hp} (s : Same H H') : Same (less B H) (less B H') := fun b o e => by
  obtain ⟨n, h⟩ := less_of e
  rw [less_at n]
  exact s _ _ h
theorem less_sub {B H : Hp} : Same (less B H) H := fun _ _ e => (less_of e).2
theorem less_but {B H H' : Hp} {D : Addr} (n : B D ≠ none) (s : But D H H') : Same (less B H) H' := fun b o e => s _ _ (fun z => n (z ▸ (less_of e).1)) (less_of e).2
theorem less_keep {B H H' : Hp} {D : Addr} (n : B D ≠ none) (s : But D H H') : Same (less B H) (less B H') := fun b o e => by
  obtain ⟨m, h⟩ := less_of e
  rw [less_at m]
  exact s _ _ (fun z => n (z ▸ m)) h
theorem less_less {B C H : Hp} (s : ∀ a, C a = none → B a = none) : Same (less C H) (less B H) := fun b o e => by
  obtain ⟨n, h⟩ := less_of e
  rw [less_at (s _ n)]
  exact h
theorem less_new {B H : Hp} {t : Addr} {o : HO} (n : B t = none) : less B (upd H t o) t = some o := by
  rw [less_at n]
  exact upd_same
def tDt (K : PySem.W.Frag) (B : Hp) (d : PyData) : TE := fun _ H Q => Same B H ∧ ∀ v H', Same H H' → Dp K (less B H') v d → Q v H'
def tDs (K : PySem.W.Frag) (B : Hp) (ds : List PyData) : TA := fun _ H Q => Same B H ∧ ∀ vs H', Same H H' → DpAll K (less B H') vs ds → Q vs H'
theorem pa_impW {t t' : TA} (h : PA X es t) (i : ∀ σ H Q, t' σ H Q → t σ H Q) : PA X es t' := ⟨fun pos pins s σ H Q I q => h.run pos pins s σ H Q I (i σ H Q q)⟩
theorem wd_str {x : Str} {j : Nat} : PE X (.Constant (.str x) j pos) (tDt K B (.str x)) := pe_imp pe_str fun _ H _ q => q.2 _ H (Same.refl _) (.str _)
theorem wd_int {x : Int} {j : Nat} : PE X (.Constant (.int x) j pos) (tDt K B (.int x)) := pe_imp pe_int fun _ H _ q => q.2 _ H (Same.refl _) (.int _)
theorem wd_bl {x : Bool} {j : Nat} : PE X (.Constant (.bool x) j pos) (tDt K B (.bool x)) := pe_imp pe_bl fun _ H _ q => q.2 _ H (Same.refl _) (.bl _)
theorem wd_non {j : Nat} : PE X (.Constant .none j pos) (tDt K B .none) := pe_imp pe_non fun _ H _ q => q.2 _ H (Same.refl _) .non
theorem wd_neg {x : Int} {j : Nat} {p2 : Pos} : PE X (.UnaryOp .USub (.Constant (.int x) j p2) pos) (tDt K B (.int (-x))) := pe_imp (pe_un un_neg pe_int) fun _ H _ q => ⟨_, rfl, q.2 _ H (Same.refl _) (.int _)⟩
theorem wd_pow {x y : Int} {j k : Nat} {p1 p2 : Pos} (h : CPow x y := by exact ⟨by decide, by decide, by decide⟩) : PE X (.BinOp (.Constant (.int x) j p1) .Pow (.Constant (.int y) k p2) pos) (tDt K B (.int (x ^ y.toNat))) := pe_imp (pe_op op_pow pe_int pe_int) fun _ H _ q => ⟨_, _, rfl, rfl, h, q.2 _ H (Same.refl _) (.int _)⟩
theorem wd_nil : PA X [] (tDs K B []) := pa_impW pa_nil fun _ H _ q => q.2 [] H (Same.refl _) .nil
theorem wd_cons (he : PE X e (tDt K B d)) (ht : PA X es (tDs K B ds)) (hs : starEach (e :: es) X.env = (false, eval e X.env) :: starEach es X.env := by rfl) : PA X (e :: es) (tDs K B (d :: ds)) :=
  pa_impW (pa_cons he ht hs) fun _ _ _ q => ⟨q.1, fun v H1 s1 dv => ⟨q.1.trans s1, fun vs H2 s2 dvs => q.2 _ H2 (s1.trans s2) (.cons (dp_same (less_same s2) dv) dvs)⟩⟩
theorem wdK (K : PySem.W.Frag) (B : Hp) (h : PA X es (tDs K B ds)) : PA X es (tDs K B ds) := h
theorem wd_tup {n : Nat} (h : PA X es (tDs K B ds)) (hl : ds.length ≤ 100 := by exact Nat.le_of_ble_eq_true rfl) : PE X (.Tuple es n pos) (tDt K B (.tuple ds)) := pe_imp (pe_tup h) fun _ _ _ q => ⟨q.1, fun vs H1 s1 dvs =>
  ⟨by rw [dps_len dvs, sizeLine_eq]; omega, fun t nt => q.2 _ _ (s1.trans (same_new nt)) (.tup (.of (less_new (none_of (q.1.trans s1) nt))) (dps_same (less_same (same_new nt)) dvs))⟩⟩
theorem wd_lst (h : PA X es (tDs K B ds)) (hl : ds.length ≤ 100 := by exact Nat.le_of_ble_eq_true rfl) : PE X (.List es pos) (tDt K B (.list ds)) := pe_imp (pe_lst h) fun _ _ _ q => ⟨q.1, fun vs H1 s1 dvs =>
  ⟨by rw [dps_len dvs, sizeLine_eq]; omega, fun t nt => q.2 _ _ (s1.trans (same_new nt)) (.lst (.of (less_new (none_of (q.1.trans s1) nt))) (dps_same (less_same (same_new nt)) dvs))⟩⟩
end
/-- data with all its parts, decided -/
def atomB : PyData → Bool
  | .str s => decide (s.length ≤ 1000000) && PyData.strOk s
  | .none => true
  | .bool _ => true
  | .int _ => true
  | _ => false
def fitB : Nat → PyData → Bool
  | 0, d => atomB d
  | n + 1, .list ds => decide (ds.length ≤ 100000) && ds.all (fitB n)
  | n + 1, .tuple ds => decide (ds.length ≤ 100000) && ds.all (fitB n)
  | _ + 1, d => atomB d
theorem atomB_ok : ∀ {d : PyData}, atomB d = true → atomOk d
  | .str s, h => ⟨of_decide_eq_true (He.ba h).1, (He.ba h).2⟩
  | .none, _ => trivial
  | .bool _, _ => trivial
  | .int _, _ => trivial
theorem fitB_ok : ∀ {n : Nat} {d : PyData}, fitB n d = true → fit n d
  | 0, _, h => atomB_ok h
  | n + 1, .list ds, h => ⟨of_decide_eq_true (He.ba h).1, fun d hd => fitB_ok (List.all_eq_true.mp (He.ba h).2 d hd)⟩
  | n + 1, .tuple ds, h => ⟨of_decide_eq_true (He.ba h).1, fun d hd => fitB_ok (List.all_eq_true.mp (He.ba h).2 d hd)⟩
  | n + 1, .str s, h => atomB_ok (d := .str s) h
  | n + 1, .none, h => trivial
  | n + 1, .bool _, h => trivial
  | n + 1, .int _, h => trivial
def tinyB : PyData → Bool
  | .str t => decide (t.length ≤ 50000)
  | .list ds => decide (ds.length ≤ 1000)
  | _ => true
/-- no list of three in it -/
def no3 : Nat → PyData → Bool
  | 0, .list _ => false
  | 0, .tuple _ => false
  | n + 1, .list ds => (ds.length != 3) && ds.all (no3 n)
  | n + 1, .tuple ds => ds.all (no3 n)
  | _, _ => true
def oddB (d : PyData) : Bool := fitB 3 d && (tinyB d && no3 5 d)
theorem tiny_ok {d : PyData} (f : fit 3 d) (h : tinyB d = true) : textOk d ∧ ∀ ds, d = .list ds → ds.length ≤ 1000 := by
  cases d with
  | str t => exact ⟨⟨of_decide_eq_true h, (fit_str f).2⟩, fun ds e => by cases e⟩
  | list ds => exact ⟨trivial, fun es e => by cases e; exact of_decide_eq_true h⟩
  | _ => exact ⟨trivial, fun ds e => by cases e⟩
theorem cat_step {K : PySem.W.Frag} {σ : L2.St} {B G : Hp} {l : Addr} {xs : List V} {ds es : List PyData} {Q : VK} (r : Same B G) (a : G l = some (.lst xs)) (d : DpAll K (less B G) xs ds) (len : ds.length + es.length ≤ 1000)
    (k : ∀ (p : Addr) (ys : List V) (G' : Hp), Same B G' → G' p = some (.lst ys) → DpAll K (less B G') ys (ds ++ es) → Q (.ref p) G') : tLst (tDs K B es) σ G (fun y H2 => rCat (.ref l) y H2 Q) := by
  refine ⟨r, fun vs H2 s2 d2 => ?_⟩
  have l1 := dps_len d
  have l2 := dps_len d2
  refine ⟨by rw [l2, sizeLine_eq]; omega, ?_⟩
  intro m nm
  have t2 := same_new (o := .lst vs) nm
  refine ⟨l, m, xs, vs, rfl, rfl, t2 _ _ (s2 _ _ a), upd_same, by rw [l1, l2, sizeLine_eq]; omega, ?_⟩
  intro p np
  have t3 := same_new (o := .lst (xs ++ vs)) np
  exact k p _ _ (r.trans (s2.trans (t2.trans t3))) upd_same (dps_app (dps_same (less_same (s2.trans (t2.trans t3))) d) (dps_same (less_same (t2.trans t3)) d2))
namespace G
section
variable {P : Program} {w : World} {K : PySem.W.Frag} {mg : Str → Option Value} {base : Heap}
def spOdd (K : PySem.W.Frag) : Sp := fun vs H Q _ => ∃ (k : Int), vs = [.int k] ∧ ∀ v d H', Same H H' → Dp K (less H H') v d → fit 3 d → textOk d → (∀ ds, d = .list ds → ds.length ≤ 1000) → no3 5 d = true → Q v H'
theorem ca_l_odd (T : Txt w K mg) : Ca P w K mg base 1 "_law_odd" (spOdd K) := by
  refine ca_of (N := ["_law_k", "_law_odds"]) (ps := ["_law_k"]) T.f_l_odd T.g_law_odd ⟨rfl, rfl, rfl, by decide +kernel, rfl, by decide +kernel, by decide +kernel⟩ (fun _ _ _ _ _ _ us hl => match us, hl with | [_], _ => rfl)
    (fun vs H Q E h => by obtain ⟨k, rfl, q⟩ := h; rfl) (fun cdv A outer s H vs Q E hr h => ?_)
  have nd : (["_law_k", "_law_odds"] : List Str).Nodup := by decide +kernel
  obtain ⟨k, rfl, q⟩ := h
  refine ⟨_, (pss_cons (ps_set (i := 1) nd rfl (.inl rfl) (pe_lst (wdK K H (wd_cons wd_non (wd_cons wd_int (wd_cons wd_str (wd_cons wd_str (wd_cons (wd_lst wd_nil) (wd_cons (wd_tup wd_nil) (wd_cons (wd_tup (wd_cons wd_str wd_nil)) (wd_cons (wd_tup (wd_cons wd_str (wd_cons wd_int wd_nil))) (wd_cons (wd_tup (wd_cons wd_str (wd_cons wd_int wd_nil))) (wd_cons (wd_tup (wd_cons wd_str (wd_cons wd_neg wd_nil))) (wd_cons (wd_tup (wd_cons wd_str (wd_cons wd_int wd_nil))) (wd_cons (wd_tup (wd_cons wd_str (wd_cons wd_bl wd_nil))) (wd_cons (wd_tup (wd_cons wd_str (wd_cons wd_str wd_nil))) wd_nil))))))))))))))))
      (pss_cons (ps_set (i := 1) nd rfl (.inl rfl) (pe_op op_cat (pv 1) (pe_lst (wdK K H (wd_cons (wd_tup (wd_cons wd_str (wd_cons wd_int wd_nil))) (wd_cons (wd_tup (wd_cons wd_str (wd_cons wd_int wd_nil))) (wd_cons (wd_tup (wd_cons wd_str (wd_cons wd_int wd_nil))) (wd_cons (wd_tup (wd_cons wd_str (wd_cons wd_int wd_nil))) (wd_cons (wd_tup (wd_cons wd_str (wd_cons wd_int wd_nil))) (wd_cons (wd_tup (wd_cons wd_int (wd_cons wd_int wd_nil))) (wd_cons (wd_lst (wd_cons wd_str (wd_cons wd_int wd_nil))) (wd_cons (wd_tup (wd_cons wd_str (wd_cons wd_int (wd_cons wd_int wd_nil)))) wd_nil))))))))))))
      (pss_cons (ps_set (i := 1) nd rfl (.inl rfl) (pe_op op_cat (pv 1) (pe_lst (wdK K H (wd_cons (wd_tup (wd_cons wd_str (wd_cons wd_int wd_nil))) (wd_cons (wd_tup (wd_cons wd_str (wd_cons wd_int wd_nil))) (wd_cons (wd_tup (wd_cons wd_str (wd_cons wd_int wd_nil))) (wd_cons (wd_tup (wd_cons wd_str (wd_cons wd_bl wd_nil))) (wd_cons (wd_tup (wd_cons wd_str (wd_cons wd_neg wd_nil))) (wd_cons (wd_tup (wd_cons wd_str (wd_cons wd_str wd_nil))) (wd_cons (wd_tup (wd_cons wd_str wd_nil)) wd_nil)))))))))))
      (pss_cons (ps_set (i := 1) nd rfl (.inl rfl) (pe_op op_cat (pv 1) (pe_lst (wdK K H (wd_cons (wd_tup (wd_cons wd_str (wd_cons wd_int (wd_cons (wd_tup (wd_cons wd_str (wd_cons wd_int wd_nil))) wd_nil)))) (wd_cons (wd_tup (wd_cons wd_str (wd_cons wd_int wd_nil))) (wd_cons (wd_tup (wd_cons wd_str (wd_cons wd_int (wd_cons (wd_tup (wd_cons wd_str (wd_cons wd_int wd_nil))) wd_nil)))) (wd_cons (wd_tup (wd_cons wd_str (wd_cons wd_int (wd_cons (wd_tup (wd_cons wd_str (wd_cons wd_int wd_nil))) wd_nil)))) (wd_cons (wd_tup (wd_cons wd_str (wd_cons wd_int (wd_cons (wd_tup (wd_cons wd_str (wd_cons wd_int wd_nil))) wd_nil)))) wd_nil)))))))))
      (pss_cons (ps_set (i := 1) nd rfl (.inl rfl) (pe_op op_cat (pv 1) (pe_lst (wdK K H (wd_cons (wd_tup (wd_cons wd_str (wd_cons wd_bl (wd_cons (wd_tup (wd_cons wd_str (wd_cons wd_int wd_nil))) wd_nil)))) (wd_cons (wd_tup (wd_cons wd_str (wd_cons wd_int (wd_cons (wd_lst (wd_cons wd_str (wd_cons wd_int wd_nil))) wd_nil)))) (wd_cons (wd_tup (wd_cons wd_str (wd_cons wd_int (wd_cons (wd_tup (wd_cons wd_str (wd_cons wd_int wd_nil))) (wd_cons wd_int wd_nil))))) (wd_cons (wd_tup (wd_cons wd_str (wd_cons wd_int (wd_cons (wd_tup (wd_cons wd_str (wd_cons wd_non wd_nil))) wd_nil)))) wd_nil))))))))
      (pss_cons (ps_set (i := 1) nd rfl (.inl rfl) (pe_op op_cat (pv 1) (pe_lst (wdK K H (wd_cons (wd_tup (wd_cons wd_str (wd_cons wd_int (wd_cons wd_int wd_nil)))) (wd_cons (wd_tup (wd_cons wd_str (wd_cons wd_int wd_nil))) (wd_cons (wd_tup (wd_cons (wd_lst (wd_cons wd_str wd_nil)) (wd_cons wd_int wd_nil))) (wd_cons (wd_tup (wd_cons wd_non (wd_cons wd_int wd_nil))) (wd_cons wd_bl (wd_cons wd_int (wd_cons wd_int (wd_cons wd_int (wd_cons wd_neg (wd_cons wd_bl (wd_cons wd_pow wd_nil)))))))))))))))
      (pss_one (ps_ret (pe_ix ix_list (pv 1) (pe_op op_mod (pe_callTy call_int1 (by rfl) T.b_int boot_int (pa_cons (pv 0) pa_nil)) (pe_callB call_len_seq (by rfl) T.b_len PySem.boot_len (pa_cons (pv 1) pa_nil))) (fun _ _ => rfl)))))))))), ?_⟩
  refine ⟨Same.refl _, fun vs1 H1 s1 d1 => ?_⟩
  refine ⟨by rw [dps_len d1, sizeLine_eq]; exact Nat.le_of_ble_eq_true rfl, fun l1 n1 => ⟨_, rfl, ?_⟩⟩
  have t1 := same_new (o := .lst vs1) n1
  refine cat_step (s1.trans t1) upd_same (dps_same (less_same t1) d1) (Nat.le_of_ble_eq_true rfl) fun l2 y2 G2 r2 a2 d2 => ⟨_, rfl, ?_⟩
  refine cat_step r2 a2 d2 (Nat.le_of_ble_eq_true rfl) fun l3 y3 G3 r3 a3 d3 => ⟨_, rfl, ?_⟩
  refine cat_step r3 a3 d3 (Nat.le_of_ble_eq_true rfl) fun l4 y4 G4 r4 a4 d4 => ⟨_, rfl, ?_⟩
  refine cat_step r4 a4 d4 (Nat.le_of_ble_eq_true rfl) fun l5 y5 G5 r5 a5 d5 => ⟨_, rfl, ?_⟩
  refine cat_step r5 a5 d5 (Nat.le_of_ble_eq_true rfl) fun l6 y6 G6 r6 a6 d6 => ⟨_, rfl, ?_⟩
  have l6n := dps_len d6
  have ln : 0 < y6.length := by rw [l6n]; exact Nat.le_of_ble_eq_true rfl
  refine ⟨_, rfl, .inl ⟨_, rfl, _, rfl, _, _, rfl, .inl (.of a6), _, _, rfl, rfl, (by show (0 : Int) < (y6.length : Nat); omega), ?_⟩⟩
  have m0 := Int.emod_nonneg k (show (y6.length : Int) ≠ 0 by omega)
  have m1 := Int.emod_lt_of_pos k (show (0 : Int) < (y6.length : Nat) by omega)
  have e : ((k % (y6.length : Nat)).toNat : Int) = k % (y6.length : Nat) := Int.toNat_of_nonneg m0
  have hi : (k % (y6.length : Nat)).toNat < y6.length := by omega
  obtain ⟨d, ed, hd⟩ := dps_get d6 (List.getElem?_eq_getElem hi)
  have B : oddB d = true := by
    refine List.all_eq_true.mp ?_ d (List.mem_of_getElem? ed)
    decide +kernel
  have f3 := fitB_ok (He.ba B).1
  have tk := tiny_ok f3 (He.ba (He.ba B).2).1
  refine ⟨l6, y6, _, y6[(k % (y6.length : Nat)).toNat], rfl, rfl, .of a6, ?_, q _ d G6 r6 hd f3 tk.1 tk.2 (He.ba (He.ba B).2).2⟩
  have hv := atI_nat (List.getElem?_eq_getElem hi)
  rw [e] at hv
  exact hv
end
end G

end M

set_option Elab.async false
set_option linter.all false
set_option maxRecDepth 100000
set_option maxHeartbeats 2000000
namespace M
open PySem PySem.Spec PyProof.Rows L2

theorem in_letters (c : Nat) : c ∈ ("abcdefghijklmnopqrstuvwxyz" : Str).cps.toList ↔ 97 ≤ c ∧ c ≤ 122 := by
  rw [show ("abcdefghijklmnopqrstuvwxyz" : Str).cps.toList = List.range' 97 26 by decide +kernel, List.mem_range'_1]
  omega
theorem in_digits (c : Nat) : c ∈ ("0123456789" : Str).cps.toList ↔ 48 ≤ c ∧ c ≤ 57 := by
  rw [show ("0123456789" : Str).cps.toList = List.range' 48 10 by decide +kernel, List.mem_range'_1]
  omega
namespace G
section
variable {P : Program} {w : World} {K : PySem.W.Frag} {mg : Str → Option Value} {base : Heap}
def spGInt (K : PySem.W.Frag) : Sp := fun vs H Q _ => ∃ (v : V) (d : PyData) (m : Int), vs = [v, .int m] ∧ Dp K H v d ∧ Q (.bl (inR 0 m d)) H
theorem ca_l_good_int (T : Txt w K mg) : Ca P w K mg base 1 "_law_good_int" (spGInt K) := by
  refine ca_of (N := ["_law_thing", "_law_most"]) (ps := ["_law_thing", "_law_most"]) T.f_l_good_int T.g_law_good_int ⟨rfl, rfl, rfl, by decide +kernel, rfl, by decide +kernel, by decide +kernel⟩ (fun _ _ _ _ _ _ us hl => match us, hl with | [_, _], _ => rfl)
    (fun vs H Q E h => by obtain ⟨v, d, m, rfl, hd, q⟩ := h; rfl) (fun cdv A outer s H vs Q E hr h => ?_)
  have nd : (["_law_thing", "_law_most"] : List Str).Nodup := by decide +kernel
  obtain ⟨v, d, m, rfl, hd, q⟩ := h
  refine ⟨_, (pss_one (ps_ret (pe_and (pe_is .int T.b_isinstance (pv 0) T.b_int boot_int) (pe_and (pe_not (pe_is .bool T.b_isinstance (pv 0) T.b_bool boot_bool)) (pe_one (pe_chain op_le op_le pe_int (pv 0) (pv 1))))))), ?_⟩
  have kd := dp_kd hd
  refine ⟨_, rfl, _, _, rfl, kd, _, rfl, ?_⟩
  cases hd with
  | int i =>
    have q : Q (.bl (decide (0 ≤ i) && decide (i ≤ m))) H := q
    refine iteT ⟨_, rfl, _, _, rfl, kd, _, rfl, _, rfl, iteT ⟨_, rfl, _, _, rfl, rfl, _, rfl, ?_⟩⟩
    by_cases c : (0 : Int) ≤ i
    · rw [decide_eq_true c] at q ⊢
      exact iteT ⟨_, rfl, _, _, rfl, rfl, q⟩
    · rw [decide_eq_false c] at q ⊢
      exact iteF q
  | bl b => exact iteT ⟨_, rfl, _, _, rfl, kd, _, rfl, _, rfl, iteF q⟩
  | _ => exact iteF q
def spGName (K : PySem.W.Frag) : Sp := fun vs H Q _ => ∃ (v : V) (d : PyData), vs = [v] ∧ Dp K H v d ∧ (∀ s, d = .str s → s.length ≤ 1000000) ∧ Q (.bl (asName d).isSome) H
theorem ca_l_good_name (T : Txt w K mg) : Ca P w K mg base 1 "_law_good_name" (spGName K) := by
  refine ca_of (N := ["_law_thing", "_law_sign_here"]) (ps := ["_law_thing"]) T.f_l_good_name T.g_law_good_name ⟨rfl, rfl, rfl, by decide +kernel, rfl, by decide +kernel, by decide +kernel⟩ (fun _ _ _ _ _ _ us hl => match us, hl with | [_], _ => rfl)
    (fun vs H Q E h => by obtain ⟨v, d, rfl, hd, hs, q⟩ := h; rfl) (fun cdv A outer s H vs Q E hr h => ?_)
  have nd : (["_law_thing", "_law_sign_here"] : List Str).Nodup := by decide +kernel
  obtain ⟨v, d, rfl, hd, hs, q⟩ := h
  refine ⟨_, (pss_cons (ps_if (PW.pt (pw_or (pt_not (pt_val (pe_is .str T.b_isinstance (pv 0) T.b_str boot_str))) (pw_or (pt_cmpR op_lt (pe_callB call_len_str (by rfl) T.b_len PySem.boot_len (pa_cons (pv 0) pa_nil)) pe_int (nomark _)) (pw_or1 (pt_cmpR op_gt (pe_callB call_len_str (by rfl) T.b_len PySem.boot_len (pa_cons (pv 0) pa_nil)) pe_int (nomark _)))))) (pss_one (ps_ret pe_bl)) pss_nil)
      (pss_cons (ps_for PassesOwn.never rfl (pi_str (pv 0)) (pg_name (i := 1) nd rfl (.inl rfl)) (pss_one (ps_if (pt_cmpR op_notIn_sign (pv 1) pe_str (by rfl)) (pss_one (ps_ret pe_bl)) pss_nil)))
      (pss_one (ps_ret pe_bl)))), ?_⟩
  have kd := dp_kd hd
  refine ⟨_, rfl, _, _, rfl, kd, _, rfl, ?_⟩
  cases hd with
  | str s =>
    have q : Q (.bl (if NameOk s then some s else none).isSome) H := q
    have hs := hs s rfl
    refine iteF ⟨_, rfl, _, rfl, by rw [sizeLine_eq]; omega, _, _, rfl, rfl, _, rfl, ?_⟩
    by_cases c1 : s.length < 1
    · rw [decide_eq_true (show (s.length : Int) < 1 by omega)]
      rw [if_neg (fun z : NameOk s => by have := z.1; omega)] at q
      exact iteT (iteT q)
    rw [decide_eq_false (show ¬ (s.length : Int) < 1 by omega)]
    refine iteF ⟨_, rfl, _, rfl, by rw [sizeLine_eq]; omega, _, _, rfl, rfl, _, rfl, ?_⟩
    by_cases c2 : 8 < s.length
    · rw [decide_eq_true (show (8 : Int) < (s.length : Int) by omega)]
      rw [if_neg (fun z : NameOk s => by have := z.2.1; omega)] at q
      exact iteT q
    rw [decide_eq_false (show ¬ (8 : Int) < (s.length : Int) by omega)]
    refine iteF ⟨_, rfl, _, rfl, for_it (n := s.cps.size) walk_str (fun i σ' H' => ∃ x, σ' = [some (.str s), x] ∧ H' = H ∧ ∀ (j c : Nat), j < i → s.cps[j]? = some c → 97 ≤ c ∧ c ≤ 122) ⟨none, rfl, rfl, fun j c h => absurd h (Nat.not_lt_zero j)⟩ (fun _ _ _ _ _ => trivial) ?_ ?_⟩
    · rintro i x σ' H' H2 hi ⟨_, rfl, rfl, hall⟩ ⟨rfl, c, hc, rfl⟩
      have hm : c ∈ s.cps.toList := by
        rw [← Array.getElem?_toList] at hc
        exact List.mem_of_getElem? hc
      refine ⟨_, rfl, c, _, rfl, rfl, _, rfl, ?_⟩
      by_cases c3 : 97 ≤ c ∧ c ≤ 122
      · rw [decide_eq_true ((in_letters c).mpr c3)]
        refine iteF ⟨_, rfl, rfl, fun j c5 hj hc5 => ?_⟩
        rcases Nat.lt_or_eq_of_le (Nat.le_of_lt_succ hj) with hj | hj
        · exact hall j c5 hj hc5
        · rw [hj, hc] at hc5
          cases (Option.some.inj hc5)
          exact c3
      · rw [decide_eq_false (fun z => c3 ((in_letters c).mp z))]
        rw [if_neg (fun z : NameOk s => c3 (z.2.2 c hm))] at q
        exact iteT q
    · rintro σ' H' ⟨_, rfl, rfl, hall⟩
      rw [if_pos (show NameOk s from ⟨by omega, by omega, fun c hc => ?_⟩)] at q
      · exact q
      · obtain ⟨j, hj, e⟩ := List.mem_iff_getElem.mp hc
        refine hall j c (by simpa using hj) ?_
        rw [← Array.getElem?_toList, List.getElem?_eq_getElem hj, e]
  | _ => exact iteT (iteT q)
def spGCall (K : PySem.W.Frag) : Sp := fun vs H Q _ => ∃ (v : V) (d : PyData) (n : Nat), vs = [v] ∧ Dp K H v d ∧ fit n d ∧ Q (.bl (asCall d).isSome) H
theorem ca_l_good_call (T : Txt w K mg) : Ca P w K mg base 2 "_law_good_call" (spGCall K) := by
  refine ca_of (N := ["_law_thing"]) (ps := ["_law_thing"]) T.f_l_good_call T.g_law_good_call ⟨rfl, rfl, rfl, by decide +kernel, rfl, by decide +kernel, by decide +kernel⟩ (fun _ _ _ _ _ _ us hl => match us, hl with | [_], _ => rfl)
    (fun vs H Q E h => by obtain ⟨v, d, n, rfl, hd, ft, q⟩ := h; rfl) (fun cdv A outer s H vs Q E hr h => ?_)
  have nd : (["_law_thing"] : List Str).Nodup := by decide +kernel
  obtain ⟨v, d, n, rfl, hd, ft, q⟩ := h
  refine ⟨_, (pss_one (ps_ret (pe_and (pe_is .tuple T.b_isinstance (pv 0) T.b_tuple boot_tuple) (pe_and (pe_cmpR op_eq (pe_callB call_len_seq (by rfl) T.b_len PySem.boot_len (pa_cons (pv 0) pa_nil)) pe_int (nomark _)) (pe_and (pe_ca (ca_l_good_name T) hr (pa_cons (pe_ix ix_tup (pv 0) pe_int (fun _ _ => rfl)) pa_nil)) (pe_one (pe_ca (ca_l_good_int T) hr (pa_cons (pe_ix ix_tup (pv 0) pe_int (fun _ _ => rfl)) (pa_cons pe_int pa_nil))))))))), ?_⟩
  have kd := dp_kd hd
  refine ⟨_, rfl, _, _, rfl, kd, _, rfl, ?_⟩
  cases e : isTup 2 d with
  | false =>
    rw [asCall_not e] at q
    cases hd with
    | @tup a xs ds h1 h2 =>
      refine iteT ⟨_, rfl, _, _, rfl, .inr h1, rfl, _, rfl, ?_⟩
      have e : decide ((ds.length : Int) = 2) = false := e
      rw [show (decide (V.int (xs.length : Nat) = V.int 2)) = decide ((ds.length : Int) = 2) by rw [dps_len h2]; simp, e]
      exact iteF q
    | _ => exact iteF q
  | true =>
    obtain ⟨ds, rfl, hl⟩ := tup_len e
    obtain ⟨a, b, rfl⟩ := two_of hl
    obtain ⟨t, x, y, rfl, ht, hx, hy⟩ := dp2 hd
    obtain ⟨m, rfl, fa, fb⟩ := fit_two ft
    rw [asCall_two] at q
    refine iteT ⟨_, rfl, _, _, rfl, .inr ht, rfl, _, rfl, iteT ?_⟩
    refine ⟨_, rfl, _, _, _, _, rfl, rfl, ht, at0, x, a, rfl, hx, fun s es => (fit_str (n := m) (es ▸ fa)).1, _, rfl, ?_⟩
    cases e2 : (asName a).isSome with
    | false =>
      rw [e2] at q
      exact iteF q
    | true =>
      rw [e2] at q
      exact iteT ⟨_, rfl, _, _, _, _, rfl, rfl, ht, at1, y, b, 8, rfl, hy, q⟩
end
end G

end M

set_option Elab.async false
set_option linter.all false
set_option maxRecDepth 100000
set_option maxHeartbeats 2000000
namespace M
open PySem PySem.Spec PyProof.Rows L2

theorem isStr_str (x s : Str) : decide (V.str s = V.str x) = isStr x (.str s) := by
  show _ = (s == x)
  rw [show (s == x) = decide (s = x) from rfl]
  exact decide_eq_decide.mpr ⟨fun z => V.str.inj z, fun z => by rw [z]⟩
namespace G
section
variable {P : Program} {w : World} {K : PySem.W.Frag} {mg : Str → Option Value} {base : Heap}
def spGItem (K : PySem.W.Frag) : Sp := fun vs H Q _ => ∃ (v : V) (d : PyData) (n : Nat), vs = [v] ∧ Dp K H v d ∧ fit n d ∧ Q (.bl (asItem d).isSome) H
theorem ca_l_good_item (T : Txt w K mg) : Ca P w K mg base 3 "_law_good_item" (spGItem K) := by
  refine ca_of (N := ["_law_thing"]) (ps := ["_law_thing"]) T.f_l_good_item T.g_law_good_item ⟨rfl, rfl, rfl, by decide +kernel, rfl, by decide +kernel, by decide +kernel⟩ (fun _ _ _ _ _ _ us hl => match us, hl with | [_], _ => rfl)
    (fun vs H Q E h => by obtain ⟨v, d, n, rfl, hd, ft, q⟩ := h; rfl) (fun cdv A outer s H vs Q E hr h => ?_)
  have nd : (["_law_thing"] : List Str).Nodup := by decide +kernel
  obtain ⟨v, d, n, rfl, hd, ft, q⟩ := h
  refine ⟨_, (pss_cons (ps_if (PW.pt (pw_or (pt_not (pt_val (pe_is .tuple T.b_isinstance (pv 0) T.b_tuple boot_tuple))) (pw_or (pt_cmpR op_lt (pe_callB call_len_seq (by rfl) T.b_len PySem.boot_len (pa_cons (pv 0) pa_nil)) pe_int (nomark _)) (pw_or (pt_cmpR op_gt (pe_callB call_len_seq (by rfl) T.b_len PySem.boot_len (pa_cons (pv 0) pa_nil)) pe_int (nomark _)) (pw_or1 (pt_not (pt_val (pe_ca (ca_l_good_int T) hr (pa_cons (pe_ix ix_tup (pv 0) pe_int (fun _ _ => rfl)) (pa_cons pe_int pa_nil)))))))))) (pss_one (ps_ret pe_bl)) pss_nil)
      (pss_cons (ps_if (pt_not (pt_val (pe_is .str T.b_isinstance (pe_ix ix_tup (pv 0) pe_int (fun _ _ => rfl)) T.b_str boot_str))) (pss_one (ps_ret pe_bl)) pss_nil)
      (pss_cons (ps_if (pt_cmpR op_eq (pe_callB call_len_seq (by rfl) T.b_len PySem.boot_len (pa_cons (pv 0) pa_nil)) pe_int (nomark _)) (pss_one (ps_ret (pe_cmpR op_eq (pe_ix ix_tup (pv 0) pe_int (fun _ _ => rfl)) pe_str (nomark _)))) pss_nil)
      (pss_one (ps_ret (pe_and (pe_cmpR op_eq (pe_ix ix_tup (pv 0) pe_int (fun _ _ => rfl)) pe_str (nomark _)) (pe_one (pe_ca (ca_l_good_call T) hr (pa_cons (pe_ix ix_tup (pv 0) pe_int (fun _ _ => rfl)) pa_nil))))))))), ?_⟩
  have kd := dp_kd hd
  refine ⟨_, rfl, _, _, rfl, kd, _, rfl, ?_⟩
  cases hd with
  | @tup t xs ds ht hds =>
    have lx := dps_len hds
    refine iteF ⟨_, rfl, _, _, rfl, .inr ht, _, _, rfl, rfl, _, rfl, ?_⟩
    by_cases c1 : ds.length < 2
    · have e : asItem (.tuple ds) = none := asItem_not (decide_eq_false (by omega)) (decide_eq_false (by omega))
      rw [e] at q
      rw [decide_eq_true (show (xs.length : Int) < 2 by omega)]
      exact iteT (iteT q)
    rw [decide_eq_false (show ¬ (xs.length : Int) < 2 by omega)]
    refine iteF ⟨_, rfl, _, _, rfl, .inr ht, _, _, rfl, rfl, _, rfl, ?_⟩
    by_cases c2 : 3 < ds.length
    · have e : asItem (.tuple ds) = none := asItem_not (decide_eq_false (by omega)) (decide_eq_false (by omega))
      rw [e] at q
      rw [decide_eq_true (show (3 : Int) < (xs.length : Int) by omega)]
      exact iteT (iteT q)
    rw [decide_eq_false (show ¬ (3 : Int) < (xs.length : Int) by omega)]
    refine iteF ?_
    by_cases c3 : ds.length = 2
    · obtain ⟨a, b, rfl⟩ := two_of (l := ds) (by omega)
      obtain ⟨t2, x, y, e0, ht, hx, hy⟩ := dp2 (.tup ht hds)
      cases e0
      obtain ⟨m, rfl, fa, fb⟩ := fit_two ft
      rw [asItem_two] at q
      refine ⟨_, rfl, _, _, _, _, rfl, rfl, ht, at1, y, b, 1, rfl, hy, _, rfl, ?_⟩
      cases e1 : inR 0 1 b with
      | false =>
        rw [e1, Bool.and_false] at q
        exact iteT q
      | true =>
        rw [e1, Bool.and_true] at q
        refine iteF ⟨_, rfl, _, _, _, _, rfl, rfl, ht, at0, _, _, rfl, dp_kd hx, _, rfl, ?_⟩
        cases hx with
        | str s =>
          refine iteF ⟨_, rfl, _, _, rfl, .inr ht, rfl, _, rfl, iteT ⟨_, rfl, _, _, _, _, rfl, rfl, ht, at0, rfl, ?_⟩⟩
          rw [isStr_str]
          exact q
        | _ => exact iteT q
    · obtain ⟨a, b, c, rfl⟩ := three_of (l := ds) (by omega)
      obtain ⟨t2, x, y, z, e0, ht, hx, hy, hz⟩ := dp3 (.tup ht hds)
      cases e0
      obtain ⟨m, rfl, fa, fb, fc⟩ := fit_three ft
      rw [asItem_three] at q
      refine ⟨_, rfl, _, _, _, _, rfl, rfl, ht, at1, y, b, 1, rfl, hy, _, rfl, ?_⟩
      cases e1 : inR 0 1 b with
      | false =>
        rw [e1, Bool.false_and, Bool.and_false] at q
        exact iteT q
      | true =>
        rw [e1, Bool.true_and] at q
        refine iteF ⟨_, rfl, _, _, _, _, rfl, rfl, ht, at0, _, _, rfl, dp_kd hx, _, rfl, ?_⟩
        cases hx with
        | str s =>
          refine iteF ⟨_, rfl, _, _, rfl, .inr ht, rfl, _, rfl, iteF ⟨_, rfl, _, _, _, _, rfl, rfl, ht, at0, rfl, _, rfl, ?_⟩⟩
          rw [isStr_str]
          cases e2 : isStr "call" (.str s) with
          | false =>
            rw [e2] at q
            exact iteF q
          | true =>
            rw [e2] at q
            exact iteT ⟨_, rfl, _, _, _, _, rfl, rfl, ht, at2, z, c, m, rfl, hz, fc, q⟩
        | _ => exact iteT q
  | _ => exact iteT (iteT q)
def spSmall : Sp := fun vs H Q _ => ∃ (s : Str) (m : Int), vs = [.str s, .int m] ∧ s.length ≤ 1000000 ∧ Q (match smallD m s with | some i => .int i | none => .non) H
theorem ca_l_small (T : Txt w K mg) : Ca P w K mg base 1 "_law_small" (spSmall) := by
  refine ca_of (N := ["_law_word", "_law_most"]) (ps := ["_law_word", "_law_most"]) T.f_l_small T.g_law_small ⟨rfl, rfl, rfl, by decide +kernel, rfl, by decide +kernel, by decide +kernel⟩ (fun _ _ _ _ _ _ us hl => match us, hl with | [_, _], _ => rfl)
    (fun vs H Q E h => by obtain ⟨s, m, rfl, hl, q⟩ := h; rfl) (fun cdv A outer s H vs Q E hr h => ?_)
  have nd : (["_law_word", "_law_most"] : List Str).Nodup := by decide +kernel
  obtain ⟨s, m, rfl, hl, q⟩ := h
  refine ⟨_, (pss_cons (ps_if (PW.pt (pw_or (pt_cmpR op_ne (pe_callB call_len_str (by rfl) T.b_len PySem.boot_len (pa_cons (pv 0) pa_nil)) pe_int (nomark _)) (pw_or (pt_cmpR op_notIn_sign (pv 0) pe_str (by rfl)) (pw_or1 (pt_cmpR op_gt (pe_callTy call_int_str (by rfl) T.b_int boot_int (pa_cons (pv 0) pa_nil)) (pv 1) (nomark _)))))) (pss_one (ps_ret pe_non)) pss_nil)
      (pss_one (ps_ret (pe_callTy call_int_str (by rfl) T.b_int boot_int (pa_cons (pv 0) pa_nil))))), ?_⟩
  refine ⟨_, rfl, _, rfl, by rw [sizeLine_eq]; omega, rfl, _, rfl, ?_⟩
  by_cases c1 : s.length = 1
  case neg =>
    have e : smallD m s = none := by
      unfold smallD
      rw [digI_len c1]
      rfl
    rw [e] at q
    rw [decide_eq_false (show ¬ V.int (s.length : Nat) = V.int 1 from fun z => c1 (by have := V.int.inj z; omega))]
    exact iteT (iteT q)
  rw [decide_eq_true (show V.int (s.length : Nat) = V.int 1 by rw [c1]; rfl)]
  obtain ⟨c, rfl⟩ : ∃ c, s = ⟨#[c]⟩ := by
    have l := c1
    rw [tl_len] at l
    obtain ⟨c, hc⟩ := List.length_eq_one_iff.mp l
    exact ⟨c, TL.ext_tl hc⟩
  refine iteF ⟨_, rfl, c, _, rfl, rfl, _, rfl, ?_⟩
  by_cases c2 : 48 ≤ c ∧ c ≤ 57
  · rw [decide_eq_true ((in_digits c).mpr c2)]
    have es : (⟨#[c]⟩ : Str) = dg ((c : Int) - 48) := TL.ext_tl (by
      rw [tl_dg]
      show [c] = _
      congr 1
      omega)
    have hint := dig_int (i := (c : Int) - 48) ⟨by omega, by omega⟩
    have ed : digI (⟨#[c]⟩ : Str) = some ((c : Int) - 48) := by
      rw [es]
      exact digI_dg ⟨by omega, by omega⟩
    have e : smallD m (⟨#[c]⟩ : Str) = if (c : Int) - 48 ≤ m then some ((c : Int) - 48) else none := by
      unfold smallD
      rw [ed]
      rfl
    rw [e] at q
    rw [← es] at hint
    refine iteF ⟨_, rfl, _, _, rfl, hint, by omega, _, rfl, _, _, rfl, rfl, _, rfl, ?_⟩
    by_cases c3 : (c : Int) - 48 ≤ m
    · rw [if_pos c3] at q
      rw [decide_eq_false (show ¬ m < (c : Int) - 48 by omega)]
      exact iteF ⟨_, rfl, _, _, rfl, hint, by omega, q⟩
    · rw [if_neg c3] at q
      rw [decide_eq_true (show m < (c : Int) - 48 by omega)]
      exact iteT q
  · rw [decide_eq_false (fun z => c2 ((in_digits c).mp z))]
    have e : smallD m (⟨#[c]⟩ : Str) = none := by
      unfold smallD
      rw [digI_bad (c := c) (by show c ∈ [c]; exact List.mem_singleton.mpr rfl) c2]
      rfl
    rw [e] at q
    exact iteT (iteT q)
end
end G

end M

set_option Elab.async false
set_option linter.all false
set_option maxRecDepth 100000
set_option maxHeartbeats 2000000
namespace M
open PySem PySem.Spec PyProof.Rows L2

def gS (s : Int) : List Str → PyData := if s = 0 then gC else gI
theorem lineCall_two (a b : Str) : lineCall [a, b] = if NameOk a then (smallD 8 b).map fun i => (a, i) else none := by
  show ((digI b).bind fun i => if NameOk a ∧ i ≤ 8 then some (a, i) else none) = _
  unfold smallD
  cases digI b with
  | none =>
    by_cases c : NameOk a
    · rw [if_pos c]
      rfl
    · rw [if_neg c]
      rfl
  | some i =>
    rw [Option.bind_some, Option.bind_some]
    by_cases c : NameOk a
    · rw [if_pos c]
      by_cases c2 : i ≤ 8
      · rw [if_pos ⟨c, c2⟩, if_pos c2]
        rfl
      · rw [if_neg (fun z => c2 z.2), if_neg c2]
        rfl
    · rw [if_neg c, if_neg (fun z => c z.1)]
theorem lineItem_two (a b : Str) : lineItem [a, b] = if a = "step" then (smallD 1 b).map Itm.step else none := by
  show (if a = "step" then (digI b).bind (fun i => if i ≤ 1 then some (Itm.step i) else none) else none) = _
  unfold smallD
  by_cases c : a = "step"
  · rw [if_pos c, if_pos c]
    cases digI b with
    | none => rfl
    | some i =>
      rw [Option.bind_some, Option.bind_some]
      by_cases c2 : i ≤ 1
      · rw [if_pos c2, if_pos c2]
        rfl
      · rw [if_neg c2, if_neg c2]
        rfl
  · rw [if_neg c, if_neg c]
theorem lineItem_four (a b c d : Str) : lineItem [a, b, c, d] = if a = "call" then (smallD 1 b).bind (fun i => (lineCall [c, d]).map (Itm.call i)) else none := by
  show (if a = "call" then (digI b).bind (fun i => if i ≤ 1 then (lineCall [c, d]).map (Itm.call i) else none) else none) = _
  unfold smallD
  by_cases e : a = "call"
  · rw [if_pos e, if_pos e]
    cases digI b with
    | none => rfl
    | some i =>
      rw [Option.bind_some, Option.bind_some]
      by_cases c2 : i ≤ 1
      · rw [if_pos c2, if_pos c2]
        rfl
      · rw [if_neg c2, if_neg c2]
        rfl
  · rw [if_neg e, if_neg e]
theorem lineCall_no {ws : List Str} (h : ws.length ≠ 2) : lineCall ws = none := by
  match ws, h with
  | [], _ => rfl
  | [_], _ => rfl
  | [_, _], h => exact absurd rfl h
  | _ :: _ :: _ :: _, _ => rfl
theorem lineItem_no {ws : List Str} (h : ws.length ≠ 2) (h4 : ws.length ≠ 4) : lineItem ws = none := by
  match ws, h, h4 with
  | [], _, _ => rfl
  | [_], _, _ => rfl
  | [_, _], h, _ => exact absurd rfl h
  | [_, _, _], _, _ => rfl
  | [_, _, _, _], _, h => exact absurd rfl h
  | _ :: _ :: _ :: _ :: _ :: _, _, _ => rfl
theorem split_pair {a b : Str} (ha : 32 ∉ TL.tl a) (hb : 32 ∉ TL.tl b) : Txt.split (a ++ (" " : Str) ++ b) (" " : Str) = [a, b] := by
  have e : a ++ (" " : Str) ++ b = Txt.join (" " : Str) [a, b] := TL.ext_tl (by
    rw [TL.join_eq, TL.tl_join]
    show TL.tl (a ++ (" " : Str) ++ b) = TL.tl a ++ (TL.tl (" " : Str) ++ TL.tl b)
    simp only [TL.tl_append, List.append_assoc])
  rw [e]
  refine TL.split_join tl_sp sp_all (List.cons_ne_nil _ _) ?_
  intro p hp
  rcases List.mem_cons.mp hp with z | hp
  · exact z ▸ ha
  · rw [List.mem_singleton.mp hp]
    exact hb
theorem tl_strOk {s : Str} (h : PyData.strOk s = true) (x : Nat) (hx : x ∈ TL.tl s) : x < 1114112 := by
  unfold PyData.strOk at h
  rw [Array.all_eq_true'] at h
  exact of_decide_eq_true (h x (by simpa [TL.tl] using hx))
namespace G
section
variable {P : Program} {w : World} {K : PySem.W.Frag} {mg : Str → Option Value} {base : Heap}
def spLT (K : PySem.W.Frag) (n : Nat) : Sp := fun vs H Q _ => ∃ (s : Int) (l : Str), vs = [.int s, .str l] ∧ ((s = 0 ∧ 1 ≤ n) ∨ (s = 1 ∧ 2 ≤ n)) ∧ (l.length ≤ 50000 ∧ PyData.strOk l = true) ∧ ∀ v H', Same H H' → Dp K H' v (gS s (Txt.split l (" " : Str))) → Q v H'
theorem ca_l_line_thing : ∀ (n : Nat) (T : Txt w K mg), Ca P w K mg base (n + 2) "_law_line_thing" (spLT K n)
  | 0, T => by
    refine ca_of (N := ["_law_sort", "_law_line", "_law_words", "_law_call_here"]) (ps := ["_law_sort", "_law_line"]) T.f_l_line_thing T.g_law_line_thing ⟨rfl, rfl, rfl, by decide +kernel, rfl, by decide +kernel, by decide +kernel⟩ (fun _ _ _ _ _ _ us hl => match us, hl with | [_, _], _ => rfl)
      (fun vs H Q E h => by obtain ⟨s, l, rfl, hs, hl, q⟩ := h; rfl) (fun cdv A outer s H vs Q E hr h => ?_)
    have nd : (["_law_sort", "_law_line", "_law_words", "_law_call_here"] : List Str).Nodup := by decide +kernel
    obtain ⟨s, l, rfl, hs, hl, q⟩ := h
    omega
  | n + 1, T => by
    refine ca_of (N := ["_law_sort", "_law_line", "_law_words", "_law_call_here"]) (ps := ["_law_sort", "_law_line"]) T.f_l_line_thing T.g_law_line_thing ⟨rfl, rfl, rfl, by decide +kernel, rfl, by decide +kernel, by decide +kernel⟩ (fun _ _ _ _ _ _ us hl => match us, hl with | [_, _], _ => rfl)
      (fun vs H Q E h => by obtain ⟨s, l, rfl, hs, hl, q⟩ := h; rfl) (fun cdv A outer s H vs Q E hr h => ?_)
    have nd : (["_law_sort", "_law_line", "_law_words", "_law_call_here"] : List Str).Nodup := by decide +kernel
    obtain ⟨s, l, rfl, hs, hl, q⟩ := h
    refine ⟨_, (pss_cons (ps_set (i := 2) nd rfl (.inl rfl) (pe_split (pv 1) pe_str))
      (pss_cons (ps_if (PW.pt (pw_and (pt_cmpR op_eq (pv 0) pe_int (nomark _)) (pw_and (pt_cmpR op_eq (pe_callB call_len_seq (by rfl) T.b_len PySem.boot_len (pa_cons (pv 2) pa_nil)) pe_int (nomark _)) (pw_and (pt_val (pe_ca (ca_l_good_name T) hr (pa_cons (pe_ix ix_list (pv 2) pe_int (fun _ _ => rfl)) pa_nil) (by omega))) (pw_and1 (pt_cmp (pc_notN (pe_ca (ca_l_small T) hr (pa_cons (pe_ix ix_list (pv 2) pe_int (fun _ _ => rfl)) (pa_cons pe_int pa_nil)) (by omega))))))))) (pss_one (ps_ret (pe_tup (pa_cons (pe_ix ix_list (pv 2) pe_int (fun _ _ => rfl)) (pa_cons (pe_callTy call_int_str (by rfl) T.b_int boot_int (pa_cons (pe_ix ix_list (pv 2) pe_int (fun _ _ => rfl)) pa_nil)) pa_nil))))) pss_nil)
      (pss_cons (ps_if (PW.pt (pw_and (pt_cmpR op_eq (pv 0) pe_int (nomark _)) (pw_and (pt_cmpR op_eq (pe_callB call_len_seq (by rfl) T.b_len PySem.boot_len (pa_cons (pv 2) pa_nil)) pe_int (nomark _)) (pw_and (pt_cmpR op_eq (pe_ix ix_list (pv 2) pe_int (fun _ _ => rfl)) pe_str (nomark _)) (pw_and1 (pt_cmp (pc_notN (pe_ca (ca_l_small T) hr (pa_cons (pe_ix ix_list (pv 2) pe_int (fun _ _ => rfl)) (pa_cons pe_int pa_nil)) (by omega))))))))) (pss_one (ps_ret (pe_tup (pa_cons pe_str (pa_cons (pe_callTy call_int_str (by rfl) T.b_int boot_int (pa_cons (pe_ix ix_list (pv 2) pe_int (fun _ _ => rfl)) pa_nil)) pa_nil))))) pss_nil)
      (pss_cons (ps_if (PW.pt (pw_and (pt_cmpR op_eq (pv 0) pe_int (nomark _)) (pw_and (pt_cmpR op_eq (pe_callB call_len_seq (by rfl) T.b_len PySem.boot_len (pa_cons (pv 2) pa_nil)) pe_int (nomark _)) (pw_and (pt_cmpR op_eq (pe_ix ix_list (pv 2) pe_int (fun _ _ => rfl)) pe_str (nomark _)) (pw_and1 (pt_cmp (pc_notN (pe_ca (ca_l_small T) hr (pa_cons (pe_ix ix_list (pv 2) pe_int (fun _ _ => rfl)) (pa_cons pe_int pa_nil)) (by omega))))))))) (pss_cons (ps_set (i := 3) nd rfl (.inl rfl) (pe_ca (ca_l_line_thing n T) hr (pa_cons pe_int (pa_cons (pe_op op_add_str (pe_op op_add_str (pe_ix ix_list (pv 2) pe_int (fun _ _ => rfl)) pe_str) (pe_ix ix_list (pv 2) pe_int (fun _ _ => rfl))) pa_nil)) (by omega)))
      (pss_one (ps_if (pt_cmp (pc_notN (pv 3))) (pss_one (ps_ret (pe_tup (pa_cons pe_str (pa_cons (pe_callTy call_int_str (by rfl) T.b_int boot_int (pa_cons (pe_ix ix_list (pv 2) pe_int (fun _ _ => rfl)) pa_nil)) (pa_cons (pv 3) pa_nil)))))) pss_nil))) pss_nil)
      (pss_one (ps_ret pe_non)))))), ?_⟩
    have wk := words_ok tl_sp sp_all hl
    have fr : ∀ w ∈ Txt.split l (" " : Str), 32 ∉ TL.tl w := fun w hw => (split_free tl_sp sp_all hw).1
    have l50 := hl.1
    have jn : Txt.join (" " : Str) (Txt.split l (" " : Str)) = l := split_back tl_sp sp_all
    refine ⟨_, rfl, ⟨_, rfl⟩, _, _, rfl, rfl, (by decide +kernel), by rw [sizeLine_eq]; omega, fun p np => ?_⟩
    generalize Txt.split l (" " : Str) = ws at q wk fr jn ⊢
    have s0 := same_new (o := .lst (ws.map V.str)) np
    have hw : SqL K (upd H p (.lst (ws.map V.str))) p (ws.map V.str) := .of upd_same
    generalize upd H p (.lst (ws.map V.str)) = G at s0 hw ⊢
    rcases hs with ⟨rfl, hn⟩ | ⟨rfl, hn⟩
    · have q1 : ∀ v H', Same H H' → Dp K H' v (callO (lineCall ws)) → Q v H' := q
      have qn : lineCall ws = none → Q .non G := fun e => q1 _ _ s0 (by rw [e]; exact .non)
      refine ⟨_, rfl, rfl, _, rfl, iteT ⟨_, rfl, _, _, rfl, .inl hw, rfl, _, rfl, ?_⟩⟩
      by_cases c2 : ws.length = 2
      case neg =>
        rw [decide_eq_false (show ¬ V.int ((ws.map V.str).length : Nat) = V.int 2 from fun z => c2 (by have := V.int.inj z; rw [List.length_map] at this; omega))]
        exact iteF ⟨_, rfl, rfl, _, rfl, iteF ⟨_, rfl, rfl, _, rfl, iteF (qn (lineCall_no c2))⟩⟩
      obtain ⟨a, b, rfl⟩ := two_of (l := ws) (by omega)
      have hw : SqL K G p [.str a, .str b] := hw
      have wa := wk.2 a List.mem_cons_self
      have wb := wk.2 b (List.mem_cons_of_mem _ List.mem_cons_self)
      have wal := wa.1
      have wbl := wb.1
      rw [lineCall_two] at q1 qn
      refine iteT ⟨_, rfl, _, _, _, _, rfl, rfl, hw, at0, .str a, .str a, rfl, .str a, fun s es => by cases es; omega, _, rfl, ?_⟩
      by_cases c3 : NameOk a
      case neg =>
        rw [if_neg c3] at qn
        rw [show (asName (.str a)).isSome = false by show (if NameOk a then some a else none).isSome = false; rw [if_neg c3]; rfl]
        exact iteF ⟨_, rfl, rfl, _, rfl, iteF ⟨_, rfl, rfl, _, rfl, iteF (qn rfl)⟩⟩
      rw [show (asName (.str a)).isSome = true by show (if NameOk a then some a else none).isSome = true; rw [if_pos c3]; rfl]
      rw [if_pos c3] at q1 qn
      refine iteT ⟨_, rfl, _, _, _, _, rfl, rfl, hw, at1, b, 8, rfl, by omega, ?_⟩
      cases e : smallD 8 b with
      | none =>
        rw [e] at qn
        exact ⟨_, rfl, iteF ⟨_, rfl, rfl, _, rfl, iteF ⟨_, rfl, rfl, _, rfl, iteF (qn rfl)⟩⟩⟩
      | some i =>
        obtain ⟨eb, h0, h9, h8⟩ := smallD_ok e
        subst eb
        rw [e] at q1
        refine ⟨_, rfl, iteT ⟨_, rfl, _, _, _, _, rfl, rfl, hw, at0, _, rfl, _, _, _, _, rfl, rfl, hw, at1, dg i, i, rfl, dig_int ⟨h0, h9⟩, by rw [len_dg]; decide, (by show 2 ≤ sizeLine; decide), fun t nt => ?_⟩⟩
        have s1 := same_new (o := .tup [.str a, .int i]) nt
        exact q1 _ _ (s0.trans s1) (.tup (.of upd_same) (.cons (.str _) (.cons (.int _) .nil)))
    · have q1 : ∀ v H', Same H H' → Dp K H' v (itemO (lineItem ws)) → Q v H' := q
      have qn : lineItem ws = none → Q .non G := fun e => q1 _ _ s0 (by rw [e]; exact .non)
      refine ⟨_, rfl, rfl, _, rfl, iteF ⟨_, rfl, rfl, _, rfl, iteT ⟨_, rfl, _, _, rfl, .inl hw, rfl, _, rfl, ?_⟩⟩⟩
      by_cases c2 : ws.length = 2
      · rw [decide_eq_true (show V.int ((ws.map V.str).length : Nat) = V.int 2 by rw [List.length_map, c2]; rfl)]
        obtain ⟨a, b, rfl⟩ := two_of (l := ws) (by omega)
        have hw : SqL K G p [.str a, .str b] := hw
        have wb := wk.2 b (List.mem_cons_of_mem _ List.mem_cons_self)
        have wbl := wb.1
        rw [lineItem_two] at q1 qn
        refine iteT ⟨_, rfl, _, _, _, _, rfl, rfl, hw, at0, rfl, _, rfl, ?_⟩
        by_cases c3 : a = "step"
        case neg =>
          rw [if_neg c3] at qn
          rw [decide_eq_false (show ¬ V.str a = V.str "step" from fun z => c3 (V.str.inj z))]
          exact iteF ⟨_, rfl, rfl, _, rfl, iteT ⟨_, rfl, _, _, rfl, .inl hw, rfl, _, rfl, iteF (qn rfl)⟩⟩
        rw [decide_eq_true (show V.str a = V.str "step" by rw [c3])]
        rw [if_pos c3] at q1 qn
        refine iteT ⟨_, rfl, _, _, _, _, rfl, rfl, hw, at1, b, 1, rfl, by omega, ?_⟩
        cases e : smallD 1 b with
        | none =>
          rw [e] at qn
          exact ⟨_, rfl, iteF ⟨_, rfl, rfl, _, rfl, iteT ⟨_, rfl, _, _, rfl, .inl hw, rfl, _, rfl, iteF (qn rfl)⟩⟩⟩
        | some i =>
          obtain ⟨eb, h0, h9, h8⟩ := smallD_ok e
          subst eb
          rw [e] at q1
          refine ⟨_, rfl, iteT ⟨_, rfl, _, _, _, _, rfl, rfl, hw, at1, dg i, i, rfl, dig_int ⟨h0, h9⟩, by rw [len_dg]; decide, (by show 2 ≤ sizeLine; decide), fun t nt => ?_⟩⟩
          have s1 := same_new (o := .tup [.str "step", .int i]) nt
          exact q1 _ _ (s0.trans s1) (.tup (.of upd_same) (.cons (.str _) (.cons (.int _) .nil)))
      rw [decide_eq_false (show ¬ V.int ((ws.map V.str).length : Nat) = V.int 2 from fun z => c2 (by have := V.int.inj z; rw [List.length_map] at this; omega))]
      refine iteF ⟨_, rfl, rfl, _, rfl, iteT ⟨_, rfl, _, _, rfl, .inl hw, rfl, _, rfl, ?_⟩⟩
      by_cases c4 : ws.length = 4
      case neg =>
        rw [decide_eq_false (show ¬ V.int ((ws.map V.str).length : Nat) = V.int 4 from fun z => c4 (by have := V.int.inj z; rw [List.length_map] at this; omega))]
        exact iteF (qn (lineItem_no c2 c4))
      rw [decide_eq_true (show V.int ((ws.map V.str).length : Nat) = V.int 4 by rw [List.length_map, c4]; rfl)]
      obtain ⟨a, b, c, d, rfl⟩ : ∃ a b c d, ws = [a, b, c, d] := by
        match ws, c4 with
        | [x, y, z, u], _ => exact ⟨x, y, z, u, rfl⟩
      have hw : SqL K G p [.str a, .str b, .str c, .str d] := hw
      have mb : b ∈ [a, b, c, d] := List.mem_cons_of_mem _ List.mem_cons_self
      have mc : c ∈ [a, b, c, d] := List.mem_cons_of_mem _ (List.mem_cons_of_mem _ List.mem_cons_self)
      have md : d ∈ [a, b, c, d] := List.mem_cons_of_mem _ (List.mem_cons_of_mem _ (List.mem_cons_of_mem _ List.mem_cons_self))
      have wbl := (wk.2 b mb).1
      have wcl := (wk.2 c mc).1
      have wdl := (wk.2 d md).1
      rw [lineItem_four] at q1 qn
      refine iteT ⟨_, rfl, _, _, _, _, rfl, rfl, hw, at0, rfl, _, rfl, ?_⟩
      by_cases c3 : a = "call"
      case neg =>
        rw [if_neg c3] at qn
        rw [decide_eq_false (show ¬ V.str a = V.str "call" from fun z => c3 (V.str.inj z))]
        exact iteF (qn rfl)
      rw [decide_eq_true (show V.str a = V.str "call" by rw [c3])]
      rw [if_pos c3] at q1 qn
      refine iteT ⟨_, rfl, _, _, _, _, rfl, rfl, hw, at1, b, 1, rfl, by omega, ?_⟩
      cases e : smallD 1 b with
      | none =>
        rw [e] at qn
        exact ⟨_, rfl, iteF (qn rfl)⟩
      | some i =>
        obtain ⟨eb, h0, h9, h8⟩ := smallD_ok e
        subst eb
        rw [e, Option.bind_some] at q1 qn
        have l1 : (" " : Str).length = 1 := by decide +kernel
        refine ⟨_, rfl, iteT ⟨_, rfl, _, _, _, _, rfl, rfl, hw, at2, _, _, rfl, rfl, by rw [sizeLine_eq, l1]; omega, _, rfl, _, _, _, _, rfl, rfl, hw, at3, _, _, rfl, rfl, by rw [sizeLine_eq, len_app, l1]; omega, ?_⟩⟩
        have ln : c.length + 1 + d.length ≤ l.length := by
          have z := congrArg TL.tl jn
          rw [TL.join_eq, TL.tl_join, tl_sp] at z
          have z : TL.tl a ++ ([32] ++ (TL.tl (dg i) ++ ([32] ++ (TL.tl c ++ ([32] ++ TL.tl d))))) = TL.tl l := z
          have z := congrArg List.length z
          simp only [List.length_append, List.length_singleton] at z
          rw [← tl_len, ← tl_len, ← tl_len, ← tl_len, ← tl_len] at z
          omega
        have so : PyData.strOk (c ++ (" " : Str) ++ d) = true := strOk_of fun x hx => by
          simp only [TL.tl_append, tl_sp, List.mem_append, List.mem_singleton] at hx
          rcases hx with (hx | hx) | hx
          · exact tl_strOk (wk.2 c mc).2 x hx
          · omega
          · exact tl_strOk (wk.2 d md).2 x hx
        refine ⟨0, c ++ (" " : Str) ++ d, rfl, .inl ⟨rfl, by omega⟩, ⟨by rw [len_app, len_app, l1]; omega, so⟩, fun v H2 s2 d2 => ?_⟩
        have d2 : Dp K H2 v (callO (lineCall (Txt.split (c ++ (" " : Str) ++ d) (" " : Str)))) := d2
        rw [split_pair (fr c mc) (fr d md)] at d2
        have hw2 := s2.seq hw
        cases e2 : lineCall [c, d] with
        | none =>
          rw [e2] at d2 q1
          cases d2
          exact ⟨_, rfl, _, rfl, iteF (q1 _ _ (s0.trans s2) .non)⟩
        | some y =>
          rw [e2] at d2 q1
          have nv : v ≠ .non := fun z => by
            subst z
            cases d2
          refine ⟨_, rfl, _, rfl, ?_⟩
          rw [decide_eq_false nv]
          refine iteT ⟨_, rfl, _, _, _, _, rfl, rfl, hw2, at1, dg i, i, rfl, dig_int ⟨h0, h9⟩, by rw [len_dg]; decide, _, rfl, (by show 3 ≤ sizeLine; decide), fun t nt => ?_⟩
          have s1 := same_new (o := .tup [.str "call", .int i, v]) nt
          exact q1 _ _ ((s0.trans s2).trans s1) (.tup (.of upd_same) (.cons (.str _) (.cons (.int _) (.cons (dp_same s1 d2) .nil))))
end
end G

end M

set_option Elab.async false
set_option linter.all false
set_option maxRecDepth 100000
set_option maxHeartbeats 2000000
namespace M
open PySem PySem.Spec PyProof.Rows L2

/-! ### what is told -/
def wordOf (x : Str) : Str := if x = "NoRow" then "row" else if x = "NoWeaving" then "weaving" else "text"
def resD : Rs → PyData
  | .ok d => .tuple [.str "told", d]
  | .bad x _ i => .tuple [.str (wordOf x), .int i]
  | .bad0 _ => .tuple [.str "state", .int 0]
theorem all_take {α : Type} {p : α → Bool} {l : List α} {i : Nat} {x : α} (h : l[i]? = some x) : ((l.take (i + 1)).filter p).length = ((l.take i).filter p).length + if p x = true then 1 else 0 := by
  rw [List.take_add_one, h, List.filter_append, List.length_append]
  congr 1
  show ([x].filter p).length = _
  cases e : p x with
  | true =>
    rw [List.filter_cons_of_pos e]
    rfl
  | false =>
    rw [List.filter_cons_of_neg (by rw [e]; decide)]
    rfl
theorem stateV_filter {ds : List PyData} (h1 : 1 ≤ ds.length) (h6 : ds.length ≤ 6) : (stateV (.tuple ds)).isSome = decide ((ds.filter (inR 0 8)).length = ds.length) := by
  show (if 1 ≤ ds.length ∧ ds.length ≤ 6 then (match runL asD ds with | .inr hs => some hs | .inl _ => none) else none).isSome = _
  rw [if_pos ⟨h1, h6⟩]
  have key : ∀ l : List PyData, (match runL asD l with | .inr hs => some hs | .inl _ => (none : Option (List Int))).isSome = l.all (inR 0 8) := by
    intro l
    induction l with
    | nil => rfl
    | cons d r ih =>
      rw [List.all_cons, ← asD_in, ← ih]
      simp only [runL]
      cases asD d with
      | none => rfl
      | some i =>
        cases runL asD r with
        | inl j => rfl
        | inr ys => rfl
  rw [key, Bool.eq_iff_iff, List.all_eq_true, decide_eq_true_iff, List.length_filter_eq_length_iff]
namespace G
section
variable {P : Program} {w : World} {K : PySem.W.Frag} {mg : Str → Option Value} {base : Heap}
def spWritten (K : PySem.W.Frag) : Sp := fun vs H Q _ => ∃ (s : Int) (v : V) (d : PyData) (n : Nat), vs = [.int s, v] ∧ (0 ≤ s ∧ s ≤ 2) ∧ Dp K H v d ∧ fit n d ∧ ∀ v' H', Same H H' → Dp K H' v' (resD (wrR s d)) → Q v' H'
theorem ca_l_written (T : Txt w K mg) : Ca P w K mg base 4 "_law_written" (spWritten K) := by
  refine ca_of (N := ["_law_sort", "_law_thing", "_law_held", "_law_word", "_law_lines", "_law_at"]) (ps := ["_law_sort", "_law_thing"]) T.f_l_written T.g_law_written ⟨rfl, rfl, rfl, by decide +kernel, rfl, by decide +kernel, by decide +kernel⟩ (fun _ _ _ _ _ _ us hl => match us, hl with | [_, _], _ => rfl)
    (fun vs H Q E h => by obtain ⟨s, v, d, n, rfl, hs, hd, ft, q⟩ := h; rfl) (fun cdv A outer s H vs Q E hr h => ?_)
  have nd : (["_law_sort", "_law_thing", "_law_held", "_law_word", "_law_lines", "_law_at"] : List Str).Nodup := by decide +kernel
  obtain ⟨s, v, d, n, rfl, hs, hd, ft, q⟩ := h
  refine ⟨_, (pss_cons (ps_if (pt_cmpR op_eq (pv 0) pe_int (nomark _)) (pss_cons (ps_if (PW.pt (pw_or (pt_not (pt_val (pe_is .tuple T.b_isinstance (pv 1) T.b_tuple boot_tuple))) (pw_or1 (pt_not (pt_chain op_le op_le pe_int (pe_callB call_len_seq (by rfl) T.b_len PySem.boot_len (pa_cons (pv 1) pa_nil)) pe_int))))) (pss_one (ps_ret (pe_tup (pa_cons pe_str (pa_cons pe_int pa_nil))))) pss_nil)
      (pss_cons (ps_if (pt_cmpR op_lt (pe_callB call_len_seq (by rfl) T.b_len PySem.boot_len (pa_cons (pe_lc (own := [("_law_held", 2)]) rfl nd (pi_tup (pv 1)) (blkOk_by (N := ["_law_sort", "_law_thing", "_law_held", "_law_word", "_law_lines", "_law_at"]) (sc := defScope s_l_written) (by decide +kernel)) (fun _ _ _ _ _ => pg_name (i := 2) nd rfl (.inl rfl)) (fun _ _ _ _ _ => pts_one (pt_val (pe_ca (ca_l_good_int T) hr (pa_cons (pv 2) (pa_cons pe_int pa_nil))))) (fun _ _ _ _ _ => pv 2)) pa_nil)) (pe_callB call_len_seq (by rfl) T.b_len PySem.boot_len (pa_cons (pv 1) pa_nil)) (nomark _)) (pss_one (ps_ret (pe_tup (pa_cons pe_str (pa_cons pe_int pa_nil))))) pss_nil)
      (pss_one (ps_ret (pe_tup (pa_cons pe_str (pa_cons (pe_join pe_str (pe_lc (own := [("_law_held", 2)]) (tt := tYes) rfl nd (pi_tup (pv 1)) (blkOk_by (N := ["_law_sort", "_law_thing", "_law_held", "_law_word", "_law_lines", "_law_at"]) (sc := defScope s_l_written) (by decide +kernel)) (fun _ _ _ _ _ => pg_name (i := 2) nd rfl (.inl rfl)) (fun _ _ _ _ _ => pts_nil) (fun _ _ _ _ _ => pe_callTy call_str_int (by rfl) T.b_str boot_str (pa_cons (pv 2) pa_nil)))) pa_nil))))))) pss_nil)
      (pss_cons (ps_set (i := 3) nd rfl (.inl rfl) (pe_ix ix_list (pe_lst (pa_cons pe_str (pa_cons pe_str pa_nil))) (pv 0) (fun _ _ => rfl)))
      (pss_cons (ps_if (pt_not (pt_val (pe_is .list T.b_isinstance (pv 1) T.b_list boot_list))) (pss_one (ps_ret (pe_tup (pa_cons (pv 3) (pa_cons (pe_un un_neg pe_int) pa_nil))))) pss_nil)
      (pss_cons (ps_set (i := 4) nd rfl (.inl rfl) (pe_lst pa_nil))
      (pss_cons (ps_for PassesOwn.never rfl (pi_range1 rfl T.b_range (pa_cons (pe_callB call_len_seq (by rfl) T.b_len PySem.boot_len (pa_cons (pv 1) pa_nil)) pa_nil)) (pg_name (i := 5) nd rfl (.inl rfl)) (pss_one (ps_if (PW.pt (pw_and (pt_cmpR op_eq (pv 0) pe_int (nomark _)) (pw_and1 (pt_val (pe_ca (ca_l_good_call T) hr (pa_cons (pe_ix ix_list (pv 1) (pv 5) (fun _ _ => rfl)) pa_nil)))))) (pss_one (ps_expr (pe_bm PySem.F.plainAttrs_list PySem.F.slot_list_append PySem.F.type_list_append mt_append (pv 4) (pa_cons (pe_ca (ca_l_call_line T) hr (pa_cons (pe_ix ix_list (pv 1) (pv 5) (fun _ _ => rfl)) pa_nil)) pa_nil)))) (pss_one (ps_if (PW.pt (pw_and (pt_cmpR op_eq (pv 0) pe_int (nomark _)) (pw_and1 (pt_val (pe_ca (ca_l_good_item T) hr (pa_cons (pe_ix ix_list (pv 1) (pv 5) (fun _ _ => rfl)) pa_nil)))))) (pss_one (ps_expr (pe_bm PySem.F.plainAttrs_list PySem.F.slot_list_append PySem.F.type_list_append mt_append (pv 4) (pa_cons (pe_ca (ca_l_item_line T) hr (pa_cons (pe_ix ix_list (pv 1) (pv 5) (fun _ _ => rfl)) pa_nil)) pa_nil)))) (pss_one (ps_ret (pe_tup (pa_cons (pv 3) (pa_cons (pv 5) pa_nil))))))))))
      (pss_one (ps_ret (pe_tup (pa_cons pe_str (pa_cons (pe_join pe_str (pv 4)) pa_nil)))))))))), ?_⟩
  have kd := dp_kd hd
  have tell : ∀ (x : Str) (y : V) (dy : PyData) (H1 : Hp), Same H H1 → Dp K H1 y dy → resD (wrR s d) = .tuple [.str x, dy] → ([V.str x, y].length ≤ sizeLine ∧ ∀ t, H1 t = none → Q (.ref t) (upd H1 t (.tup [.str x, y]))) := by
    intro x y dy H1 s1 hy e
    refine ⟨by show 2 ≤ sizeLine; decide, fun t nt => q _ _ (s1.trans (same_new nt)) ?_⟩
    rw [e]
    exact .tup (.of upd_same) (.cons (.str _) (.cons (dp_same (same_new nt) hy) .nil))
  have h3 : s = 0 ∨ s = 1 ∨ s = 2 := by omega
  rcases h3 with rfl | rfl | rfl
  · have wr : wrR 0 d = rowR d := rfl
    rw [wr] at tell
    clear q
    refine ⟨_, rfl, rfl, _, rfl, iteF ⟨(by show 2 ≤ sizeLine; decide), fun wl nwl => ?_⟩⟩
    have s1 := same_new (o := .lst [.str "row", .str "weaving"]) nwl
    refine ⟨_, rfl, _, _, _, _, rfl, rfl, .of upd_same, at0, ?_⟩
    generalize upd H wl (.lst [.str "row", .str "weaving"]) = G1 at s1 ⊢
    have hd1 := dp_same s1 hd
    have kd1 := dp_kd hd1
    refine ⟨_, rfl, _, _, rfl, kd1, _, rfl, ?_⟩
    cases hd1 with
    | @lst a xs ds ha hds =>
      obtain ⟨m, rfl, hl, hf⟩ : ∃ m, n = m + 1 ∧ ds.length ≤ 100000 ∧ ∀ d ∈ ds, fit m d := by
        cases n with
        | zero => exact ft.elim
        | succ m => exact ⟨m, rfl, ft⟩
      have lx := dps_len hds
      refine iteF ⟨(by show 0 ≤ sizeLine; exact Nat.zero_le _), fun D nD => ?_⟩
      have s2 := same_new (o := .lst []) nD
      refine ⟨_, rfl, _, _, rfl, .inl (s2.seq ha), _, rfl, by omega, by omega, for_it (n := xs.length) walk_range (fun i σ' H' => ∃ (z : Option V) (cs : List (Str × Int)), σ' = [some (.int 0), some (.ref a), none, some (.str "row"), some (.ref D), z] ∧ Same G1 H' ∧ H' D = some (.lst ((cs.map callL).map V.str)) ∧ Paired (fun d c => asCall d = some c) (ds.take i) cs) ⟨none, [], rfl, s2, upd_same, .nil⟩ (fun _ _ _ _ _ => trivial) ?_ ?_⟩
      · rintro i z σ' H0 H1 hi ⟨z5, cs, rfl, sj, hD, pc⟩ ⟨rfl, rfl⟩
        have hx := List.getElem?_eq_getElem hi
        generalize xs[i] = x at hx
        obtain ⟨dd, ed, hdd⟩ := dps_get hds hx
        have hat : atI xs ((0 : Int) + (i : Nat)) = some x := by
          rw [show (0 : Int) + (i : Nat) = ((i : Nat) : Int) by omega]
          exact atI_nat hx
        have sq := sj.seq ha
        have hdj := dp_same sj hdd
        refine ⟨_, rfl, rfl, _, rfl, iteT ?_⟩
        refine ⟨_, rfl, _, rfl, _, _, _, _, rfl, rfl, sq, hat, x, dd, m, rfl, hdj, hf dd (List.mem_of_getElem? ed), _, rfl, ?_⟩
        cases ec : asCall dd with
        | none =>
          have e : resD (rowR (.list ds)) = .tuple [.str "row", .int ((0 : Int) + (i : Nat))] := by
            show resD (match runL asCall ds with | .inl i => .bad "NoRow" "index" (i : Nat) | .inr cs => .ok (.str (Txt.join ("\n" : Str) (cs.map callL)))) = _
            rw [runL_bad pc ed ec, show (0 : Int) + (i : Nat) = ((i : Nat) : Int) by omega]
            rfl
          exact iteF ⟨_, rfl, rfl, _, rfl, iteF ⟨_, rfl, _, rfl, tell _ _ _ H1 (s1.trans sj) (.int _) e⟩⟩
        | some c =>
          obtain ⟨rfl, okc⟩ := asCall_ok ec
          have lc := Paired.length pc
          rw [List.length_take] at lc
          refine iteT ⟨_, rfl, .inl ⟨rfl, _, .of hD⟩, _, rfl, _, rfl, _, _, _, _, rfl, rfl, sq, hat, x, c, rfl, hdj, okc, D, _, _, rfl, rfl, hD, by rw [List.length_map, List.length_map, ← lc, sizeLine_eq]; omega, _, cs ++ [c], rfl, fun b o e => ?_, ?_, paired_snoc pc ed ec⟩
          · rw [upd_ne (ne_of_none e nD)]
            exact sj _ _ e
          · rw [upd_same, List.map_append, List.map_append]
            rfl
      · rintro σ' H1 ⟨z5, cs, rfl, sj, hD, pc⟩
        have pc := paired_full lx pc
        have lc := Paired.length pc
        have e : resD (rowR (.list ds)) = .tuple [.str "told", .str (Txt.join ("\n" : Str) (cs.map callL))] := by
          show resD (match runL asCall ds with | .inl i => .bad "NoRow" "index" (i : Nat) | .inr cs => .ok (.str (Txt.join ("\n" : Str) (cs.map callL)))) = _
          rw [runL_all pc]
          rfl
        refine ⟨⟨_, rfl⟩, _, rfl, _, D, cs.map callL, rfl, rfl, .inl (.of hD), ?_, tell _ _ _ H1 (s1.trans sj) (.str _) e⟩
        have h1 := sum_len (ss := cs.map callL) (k := 20) fun x hx => by
          obtain ⟨c, hc, rfl⟩ := List.mem_map.mp hx
          obtain ⟨d, hd, e⟩ := paired_mem pc c hc
          have := (callL_line (asCall_ok e).2).2.2
          omega
        have e0 : ("\n" : Str).length = 1 := by decide +kernel
        rw [List.length_map] at h1
        rw [e0, List.length_map]
        omega
    | _ => exact iteT ⟨_, rfl, _, rfl, tell _ _ _ G1 s1 (.int _) rfl⟩
  · have wr : wrR 1 d = wvgR d := rfl
    rw [wr] at tell
    clear q
    refine ⟨_, rfl, rfl, _, rfl, iteF ⟨(by show 2 ≤ sizeLine; decide), fun wl nwl => ?_⟩⟩
    have s1 := same_new (o := .lst [.str "row", .str "weaving"]) nwl
    refine ⟨_, rfl, _, _, _, _, rfl, rfl, .of upd_same, at1, ?_⟩
    generalize upd H wl (.lst [.str "row", .str "weaving"]) = G1 at s1 ⊢
    have hd1 := dp_same s1 hd
    have kd1 := dp_kd hd1
    refine ⟨_, rfl, _, _, rfl, kd1, _, rfl, ?_⟩
    cases hd1 with
    | @lst a xs ds ha hds =>
      obtain ⟨m, rfl, hl, hf⟩ : ∃ m, n = m + 1 ∧ ds.length ≤ 100000 ∧ ∀ d ∈ ds, fit m d := by
        cases n with
        | zero => exact ft.elim
        | succ m => exact ⟨m, rfl, ft⟩
      have lx := dps_len hds
      refine iteF ⟨(by show 0 ≤ sizeLine; exact Nat.zero_le _), fun D nD => ?_⟩
      have s2 := same_new (o := .lst []) nD
      refine ⟨_, rfl, _, _, rfl, .inl (s2.seq ha), _, rfl, by omega, by omega, for_it (n := xs.length) walk_range (fun i σ' H' => ∃ (z : Option V) (cs : List Itm), σ' = [some (.int 1), some (.ref a), none, some (.str "weaving"), some (.ref D), z] ∧ Same G1 H' ∧ H' D = some (.lst ((cs.map itemL).map V.str)) ∧ Paired (fun d c => asItem d = some c) (ds.take i) cs) ⟨none, [], rfl, s2, upd_same, .nil⟩ (fun _ _ _ _ _ => trivial) ?_ ?_⟩
      · rintro i z σ' H0 H1 hi ⟨z5, cs, rfl, sj, hD, pc⟩ ⟨rfl, rfl⟩
        have hx := List.getElem?_eq_getElem hi
        generalize xs[i] = x at hx
        obtain ⟨dd, ed, hdd⟩ := dps_get hds hx
        have hat : atI xs ((0 : Int) + (i : Nat)) = some x := by
          rw [show (0 : Int) + (i : Nat) = ((i : Nat) : Int) by omega]
          exact atI_nat hx
        have sq := sj.seq ha
        have hdj := dp_same sj hdd
        refine ⟨_, rfl, rfl, _, rfl, iteF ⟨_, rfl, rfl, _, rfl, iteT ?_⟩⟩
        refine ⟨_, rfl, _, rfl, _, _, _, _, rfl, rfl, sq, hat, x, dd, m, rfl, hdj, hf dd (List.mem_of_getElem? ed), _, rfl, ?_⟩
        cases ec : asItem dd with
        | none =>
          have e : resD (wvgR (.list ds)) = .tuple [.str "weaving", .int ((0 : Int) + (i : Nat))] := by
            show resD (match runL asItem ds with | .inl i => .bad "NoWeaving" "index" (i : Nat) | .inr cs => .ok (.str (Txt.join ("\n" : Str) (cs.map itemL)))) = _
            rw [runL_bad pc ed ec, show (0 : Int) + (i : Nat) = ((i : Nat) : Int) by omega]
            rfl
          exact iteF ⟨_, rfl, _, rfl, tell _ _ _ H1 (s1.trans sj) (.int _) e⟩
        | some c =>
          obtain ⟨rfl, okc⟩ := asItem_ok ec
          have lc := Paired.length pc
          rw [List.length_take] at lc
          refine iteT ⟨_, rfl, .inl ⟨rfl, _, .of hD⟩, _, rfl, _, rfl, _, _, _, _, rfl, rfl, sq, hat, x, c, rfl, hdj, okc, D, _, _, rfl, rfl, hD, by rw [List.length_map, List.length_map, ← lc, sizeLine_eq]; omega, _, cs ++ [c], rfl, fun b o e => ?_, ?_, paired_snoc pc ed ec⟩
          · rw [upd_ne (ne_of_none e nD)]
            exact sj _ _ e
          · rw [upd_same, List.map_append, List.map_append]
            rfl
      · rintro σ' H1 ⟨z5, cs, rfl, sj, hD, pc⟩
        have pc := paired_full lx pc
        have lc := Paired.length pc
        have e : resD (wvgR (.list ds)) = .tuple [.str "told", .str (Txt.join ("\n" : Str) (cs.map itemL))] := by
          show resD (match runL asItem ds with | .inl i => .bad "NoWeaving" "index" (i : Nat) | .inr cs => .ok (.str (Txt.join ("\n" : Str) (cs.map itemL)))) = _
          rw [runL_all pc]
          rfl
        refine ⟨⟨_, rfl⟩, _, rfl, _, D, cs.map itemL, rfl, rfl, .inl (.of hD), ?_, tell _ _ _ H1 (s1.trans sj) (.str _) e⟩
        have h1 := sum_len (ss := cs.map itemL) (k := 20) fun x hx => by
          obtain ⟨c, hc, rfl⟩ := List.mem_map.mp hx
          obtain ⟨d, hd, e⟩ := paired_mem pc c hc
          have := (itemL_line (asItem_ok e).2).2.2
          omega
        have e0 : ("\n" : Str).length = 1 := by decide +kernel
        rw [List.length_map] at h1
        rw [e0, List.length_map]
        omega
    | _ => exact iteT ⟨_, rfl, _, rfl, tell _ _ _ G1 s1 (.int _) rfl⟩
  · have wr : wrR 2 d = stateR d := rfl
    rw [wr] at tell
    clear q
    refine ⟨_, rfl, rfl, _, rfl, iteT ⟨_, rfl, _, _, rfl, kd, _, rfl, ?_⟩⟩
    cases hd with
    | @tup a xs ds ht hds =>
      have lx := dps_len hds
      have nost : stateV (.tuple ds) = none → resD (stateR (.tuple ds)) = .tuple [.str "state", .int 0] := fun e => by
        unfold stateR
        rw [e]
        rfl
      refine iteF ⟨_, rfl, _, _, rfl, .inr ht, _, _, rfl, rfl, _, rfl, ?_⟩
      by_cases c1 : 1 ≤ ds.length
      case neg =>
        have e : stateV (.tuple ds) = none := if_neg (fun z => c1 z.1)
        rw [decide_eq_false (show ¬ (1 : Int) ≤ (xs.length : Int) by omega)]
        exact iteF ⟨_, rfl, iteT (tell _ _ _ H (Same.refl _) (.int 0) (nost e))⟩
      rw [decide_eq_true (show (1 : Int) ≤ (xs.length : Int) by omega)]
      refine iteT ⟨_, _, rfl, rfl, _, rfl, ?_⟩
      by_cases c2 : ds.length ≤ 6
      case neg =>
        have e : stateV (.tuple ds) = none := if_neg (fun z => c2 z.2)
        rw [decide_eq_false (show ¬ (xs.length : Int) ≤ 6 by omega)]
        exact iteT (tell _ _ _ H (Same.refl _) (.int 0) (nost e))
      rw [decide_eq_true (show (xs.length : Int) ≤ 6 by omega)]
      have sf := stateV_filter c1 c2
      refine iteF ⟨_, rfl, a, rfl, ⟨_, ht⟩, fun D nD => ?_⟩
      refine lc_it (n := xs.length) walk_tup (fun i J => Same H J ∧ ∃ acc, J D = some (.lst acc) ∧ acc.length = ((ds.take i).filter (inR 0 8)).length) ⟨same_new nD, [], upd_same, rfl⟩ (fun i J _ z => same_t z.1 ht) ?_ ?_
      · rintro i x J J2 hi ⟨sj, acc, hD, la⟩ ⟨rfl, hx⟩
        obtain ⟨dd, ed, hdd⟩ := dps_get hds hx
        refine ⟨rfl, _, rfl, x, dd, 8, rfl, dp_same sj hdd, ?_⟩
        refine ⟨_, rfl, ?_⟩
        have more := all_take (p := inR 0 8) ed
        have small : acc.length ≤ 6 := by
          have z := List.length_filter_le (inR 0 8) (ds.take i)
          rw [List.length_take] at z
          omega
        cases e : inR 0 8 dd with
        | true =>
          rw [e, if_pos rfl] at more
          refine iteT ⟨_, rfl, acc, hD, by rw [sizeLine_eq]; omega, fun b o z => ?_, acc ++ [x], upd_same, by rw [List.length_append, more, la]; rfl⟩
          rw [upd_ne (ne_of_none z nD)]
          exact sj b o z
        | false =>
          rw [e, if_neg (by decide)] at more
          exact iteF ⟨sj, acc, hD, by rw [la, more]; rfl⟩
      · rintro J ⟨sj, acc, hD, la⟩
        rw [lx, List.take_length] at la
        have htJ := same_t sj ht
        have hdsJ := dps_same sj hds
        refine ⟨D, acc, rfl, .inl (.of hD), _, rfl, _, _, rfl, .inr htJ, _, _, rfl, rfl, _, rfl, ?_⟩
        have le := List.length_filter_le (inR 0 8) ds
        by_cases ca : (ds.filter (inR 0 8)).length = ds.length
        case neg =>
          rw [decide_eq_false ca] at sf
          have e : stateV (.tuple ds) = none := by
            cases z : stateV (.tuple ds) with
            | none => rfl
            | some y =>
              rw [z] at sf
              cases sf
          rw [decide_eq_true (show (acc.length : Int) < (xs.length : Int) by omega)]
          exact iteT (tell _ _ _ J sj (.int 0) (nost e))
        rw [decide_eq_true ca] at sf
        obtain ⟨hs, eh⟩ := Option.isSome_iff_exists.mp sf
        rw [decide_eq_false (show ¬ (acc.length : Int) < (xs.length : Int) by omega)]
        obtain ⟨ed, ok⟩ := stateV_ok eh
        cases ed
        cases dps_intsW hdsJ
        have wr2 : resD (stateR (.tuple (hs.map PyData.int))) = .tuple [.str "told", .str (Txt.join (" " : Str) (hs.map dg))] := by
          unfold stateR
          rw [eh]
          rfl
        refine iteF ⟨⟨_, rfl⟩, _, rfl, a, rfl, ⟨_, htJ⟩, fun D2 nD2 => ?_⟩
        refine lc_out (n := (hs.map V.int).length) walk_tup nD2 (by rw [List.length_map]; have := ok.2.1; omega) (fun i y H => ∃ h, hs[i]? = some h ∧ y = .str (dg h)) (fun _ _ _ _ _ _ h => h) (fun H' s => same_t s htJ) (fun i x H' H2 N F hi s y k => ?_) (fun H1 zs s1 hD el hz => ?_)
        · obtain ⟨rfl, hx⟩ := y
          obtain ⟨z, hz, rfl⟩ := get_map hx
          have b := ok.2.2 z (List.mem_of_getElem? hz)
          refine ⟨rfl, iteT ⟨_, rfl, _, rfl, dig_log ⟨b.1, by omega⟩, ?_⟩⟩
          rw [dig_str ⟨b.1, by omega⟩]
          exact k _ _ (Same.refl _) ⟨z, hz, rfl⟩
        · rw [List.length_map] at el
          have e : zs = (hs.map dg).map V.str := by
            rw [List.map_map]
            exact map_eq el hz
          rw [e] at hD
          refine ⟨_, D2, hs.map dg, rfl, rfl, .inl (.of hD), ?_, tell _ _ _ H1 (sj.trans s1) (.str _) wr2⟩
          have h1 := sum_len (ss := hs.map dg) (k := 1) fun x hx => by
            obtain ⟨c, hc, rfl⟩ := List.mem_map.mp hx
            exact Nat.le_refl 1
          have l1 : (" " : Str).length = 1 := by decide +kernel
          have l6 := ok.2.1
          rw [List.length_map] at h1
          rw [l1, List.length_map]
          omega
    | _ => exact iteT (iteT (tell _ _ _ H (Same.refl _) (.int 0) rfl))
end
end G

end M

set_option Elab.async false
set_option linter.all false
set_option maxRecDepth 100000
set_option maxHeartbeats 2000000
namespace M
open PySem PySem.Spec PyProof.Rows L2

def smV : Option Int → V
  | some i => .int i
  | none => .non
theorem in_none : ∀ ws : List Str, inV .non (ws.map fun w => smV (smallD 8 w)) = match runL (smallD 8) ws with
    | .inl _ => true
    | .inr _ => false
  | [] => rfl
  | w :: ws => by
    have ih := in_none ws
    show (eqV (smV (smallD 8 w)) .non || inV .non (ws.map fun w => smV (smallD 8 w))) = _
    rw [ih]
    simp only [runL]
    cases smallD 8 w with
    | none => rfl
    | some i =>
      cases runL (smallD 8) ws with
      | inl j => rfl
      | inr ys => rfl
theorem all_flat : ∀ ws : List Str, (ws.map fun w => smV (smallD 8 w)).all flatV = true
  | [] => rfl
  | w :: ws => by
    show (flatV (smV (smallD 8 w)) && (ws.map fun w => smV (smallD 8 w)).all flatV) = true
    rw [all_flat ws, Bool.and_true]
    cases smallD 8 w <;> rfl
theorem sm_ints : ∀ {ws : List Str} {hs : List Int}, Paired (fun w h => smallD 8 w = some h) ws hs → (ws.map fun w => smV (smallD 8 w)) = hs.map V.int
  | _, _, .nil => rfl
  | _, _, .cons e t => by
    rw [List.map_cons, List.map_cons, sm_ints t, e]
    rfl
theorem lineO_gS {s : Int} {l : Str} : lineO (gS s) l = match gS s (Txt.split l (" " : Str)) with
    | .none => none
    | d => some d := rfl
namespace G
section
variable {P : Program} {w : World} {K : PySem.W.Frag} {mg : Str → Option Value} {base : Heap}
def spRead (K : PySem.W.Frag) : Sp := fun vs H Q _ => ∃ (s : Int) (v : V) (d : PyData), vs = [.int s, v] ∧ (0 ≤ s ∧ s ≤ 2) ∧ Dp K H v d ∧ textOk d ∧ ∀ v' H', Same H H' → Dp K H' v' (resD (rdR s d)) → Q v' H'
theorem ca_l_read (T : Txt w K mg) : Ca P w K mg base 6 "_law_read" (spRead K) := by
  refine ca_of (N := ["_law_sort", "_law_text", "_law_word", "_law_held", "_law_things", "_law_lines", "_law_at", "_law_thing"]) (ps := ["_law_sort", "_law_text"]) T.f_l_read T.g_law_read ⟨rfl, rfl, rfl, by decide +kernel, rfl, by decide +kernel, by decide +kernel⟩ (fun _ _ _ _ _ _ us hl => match us, hl with | [_, _], _ => rfl)
    (fun vs H Q E h => by obtain ⟨s, v, d, rfl, hs, hd, ht, q⟩ := h; rfl) (fun cdv A outer s H vs Q E hr h => ?_)
  have nd : (["_law_sort", "_law_text", "_law_word", "_law_held", "_law_things", "_law_lines", "_law_at", "_law_thing"] : List Str).Nodup := by decide +kernel
  obtain ⟨s, v, d, rfl, hs, hd, ht, q⟩ := h
  refine ⟨_, (pss_cons (ps_if (pt_not (pt_val (pe_is .str T.b_isinstance (pv 1) T.b_str boot_str))) (pss_one (ps_ret (pe_tup (pa_cons pe_str (pa_cons (pe_un un_neg pe_int) pa_nil))))) pss_nil)
      (pss_cons (ps_if (pt_cmpR op_eq (pv 0) pe_int (nomark _)) (pss_cons (ps_setLc (i := 3) (own := [("_law_word", 2)]) (tt := tYes) rfl nd rfl rfl (by rfl) (pi_list (pe_split (pv 1) pe_str)) (blkOk_by (N := ["_law_sort", "_law_text", "_law_word", "_law_held", "_law_things", "_law_lines", "_law_at", "_law_thing"]) (sc := defScope s_l_read) (by decide +kernel)) (fun _ _ _ _ _ => pg_name (i := 2) nd rfl (.inl rfl)) (fun _ _ _ _ _ => pts_nil) (fun _ _ _ _ _ => pe_ca (ca_l_small T) hr (pa_cons (pv 2) (pa_cons pe_int pa_nil))))
      (pss_cons (ps_if (PW.pt (pw_or (pt_cmpR op_gt (pe_callB call_len_seq (by rfl) T.b_len PySem.boot_len (pa_cons (pv 3) pa_nil)) pe_int (nomark _)) (pw_or1 (pt_cmpR op_in_seq pe_non (pv 3) (by rfl))))) (pss_one (ps_ret (pe_tup (pa_cons pe_str (pa_cons pe_int pa_nil))))) pss_nil)
      (pss_one (ps_ret (pe_tup (pa_cons pe_str (pa_cons (pe_tupleOf (by rfl) T.b_tuple (pv 3)) pa_nil))))))) pss_nil)
      (pss_cons (ps_set (i := 4) nd rfl (.inl rfl) (pe_lst pa_nil))
      (pss_cons (ps_if (pt_cmpR op_ne (pv 1) pe_str (nomark _)) (pss_cons (ps_set (i := 5) nd rfl (.inl rfl) (pe_split (pv 1) pe_str))
      (pss_one (ps_for PassesOwn.never rfl (pi_range1 rfl T.b_range (pa_cons (pe_callB call_len_seq (by rfl) T.b_len PySem.boot_len (pa_cons (pv 5) pa_nil)) pa_nil)) (pg_name (i := 6) nd rfl (.inl rfl)) (pss_cons (ps_set (i := 7) nd rfl (.inl rfl) (pe_ca (ca_l_line_thing 2 T) hr (pa_cons (pv 0) (pa_cons (pe_ix ix_list (pv 5) (pv 6) (fun _ _ => rfl)) pa_nil))))
      (pss_cons (ps_if (pt_cmp (pc_isN (pv 7))) (pss_one (ps_ret (pe_tup (pa_cons pe_str (pa_cons (pv 6) pa_nil))))) pss_nil)
      (pss_one (ps_expr (pe_bm PySem.F.plainAttrs_list PySem.F.slot_list_append PySem.F.type_list_append mt_append (pv 4) (pa_cons (pv 7) pa_nil))))))))) pss_nil)
      (pss_one (ps_ret (pe_tup (pa_cons pe_str (pa_cons (pv 4) pa_nil))))))))), ?_⟩
  have tell : ∀ (x : Str) (y : V) (dy : PyData) (H1 : Hp), Same H H1 → Dp K H1 y dy → resD (rdR s d) = .tuple [.str x, dy] → ([V.str x, y].length ≤ sizeLine ∧ ∀ t, H1 t = none → Q (.ref t) (upd H1 t (.tup [.str x, y]))) := by
    intro x y dy H1 s1 hy e
    refine ⟨by show 2 ≤ sizeLine; decide, fun t nt => q _ _ (s1.trans (same_new nt)) ?_⟩
    rw [e]
    exact .tup (.of upd_same) (.cons (.str _) (.cons (dp_same (same_new nt) hy) .nil))
  clear q
  have kd := dp_kd hd
  refine ⟨_, rfl, _, _, rfl, kd, _, rfl, ?_⟩
  cases hd with
  | str t =>
    have h3 : s = 2 ∨ (s = 0 ∨ s = 1) := by omega
    refine iteF ?_
    have tl50 := ht.1
    rcases h3 with rfl | h01
    · refine ⟨_, rfl, rfl, _, rfl, iteT ?_⟩
      have wr : rdR 2 (.str t) = rdStR (.str t) := rfl
      rw [wr] at tell
      have wk := words_ok tl_sp sp_all ht
      have many := split_many (x := t) tl_sp sp_all
      have ed : resD (rdStR (.str t)) = resD (match runL (smallD 8) (Txt.split t (" " : Str)) with | .inr hs => if hs.length ≤ 6 then .ok (.tuple (hs.map PyData.int)) else .bad "NoText" "line" 0 | .inl _ => .bad "NoText" "line" 0) := rfl
      rw [ed] at tell
      refine ⟨_, rfl, ⟨_, rfl⟩, _, _, rfl, rfl, (by decide +kernel), by rw [sizeLine_eq]; omega, fun p np => ?_⟩
      generalize Txt.split t (" " : Str) = ws at tell wk many ⊢
      have s0 := same_new (o := .lst (ws.map V.str)) np
      have hp : upd H p (.lst (ws.map V.str)) p = some (.lst (ws.map V.str)) := upd_same
      generalize upd H p (.lst (ws.map V.str)) = G at s0 hp ⊢
      refine ⟨p, rfl, ⟨_, .of hp⟩, fun D nD => ?_⟩
      refine lc_out (n := (ws.map V.str).length) walk_list nD (by rw [List.length_map]; omega) (fun i y H => ∃ w, ws[i]? = some w ∧ y = smV (smallD 8 w)) (fun _ _ _ _ _ _ h => h) (fun H' s => .of (s _ _ hp)) (fun i x H' H2 N F hi s y k => ?_) (fun H1 zs s1 hD el hz => ?_)
      · obtain ⟨rfl, hx⟩ := y
        obtain ⟨z, hz, rfl⟩ := get_mapC hx
        have lz := (wk.2 z (List.mem_of_getElem? hz)).1
        refine ⟨rfl, iteT ⟨_, rfl, z, 8, rfl, by omega, ?_⟩⟩
        refine k _ _ (Same.refl _) ⟨z, hz, ?_⟩
        cases smallD 8 z <;> rfl
      · rw [List.length_map] at el
        have e : zs = ws.map fun w => smV (smallD 8 w) := map_eq el hz
        subst e
        refine ⟨_, rfl, _, _, rfl, .inl (.of hD), _, _, rfl, rfl, _, rfl, ?_⟩
        by_cases c6 : 6 < ws.length
        · have e2 : resD (match runL (smallD 8) ws with | .inr hs => if hs.length ≤ 6 then .ok (.tuple (hs.map PyData.int)) else .bad "NoText" "line" 0 | .inl _ => .bad "NoText" "line" 0) = .tuple [.str "text", .int 0] := by
            cases e : runL (smallD 8) ws with
            | inl i => rfl
            | inr hs =>
              have l := Paired.length (runL_inr e)
              dsimp only
              rw [if_neg (by omega)]
              rfl
          rw [decide_eq_true (show (6 : Int) < ((ws.map fun w => smV (smallD 8 w)).length : Nat) by rw [List.length_map]; omega)]
          exact iteT (iteT (tell _ _ _ H1 (s0.trans s1) (.int 0) e2))
        rw [decide_eq_false (show ¬ (6 : Int) < ((ws.map fun w => smV (smallD 8 w)).length : Nat) by rw [List.length_map]; omega)]
        refine iteF ⟨_, rfl, D, _, rfl, .inl (.of hD), rfl, all_flat ws, ?_⟩
        show ∃ k, V.bl (inV .non (ws.map fun w => smV (smallD 8 w))) = .bl k ∧ _
        rw [in_none]
        cases e : runL (smallD 8) ws with
        | inl i =>
          rw [e] at tell
          exact ⟨true, rfl, iteT (tell _ _ _ H1 (s0.trans s1) (.int 0) rfl)⟩
        | inr hs =>
          have pw := runL_inr e
          have l := Paired.length pw
          rw [e] at tell
          dsimp only at tell
          rw [if_pos (show hs.length ≤ 6 by omega)] at tell
          rw [sm_ints pw] at hD
          refine ⟨false, rfl, iteF ?_⟩
          refine ⟨_, rfl, .inl ⟨D, _, rfl, .of hD, fun t2 nt => ?_⟩⟩
          have s2 := same_new (o := .tup (hs.map V.int)) nt
          exact tell _ _ _ _ ((s0.trans s1).trans s2) (.tup (.of upd_same) (ints_dp hs)) rfl
    · have wr : rdR s (.str t) = readR (gS s) (.str t) := by rcases h01 with rfl | rfl <;> rfl
      have ns : ¬ V.int s = V.int 2 := fun z => by
        have := V.int.inj z
        omega
      have nl : ∀ ws, NoL (gS s ws) := by
        intro ws
        rcases h01 with rfl | rfl
        · exact callO_noL _
        · exact itemO_noL _
      rw [wr] at tell
      have ed : resD (readR (gS s) (.str t)) = resD (if t = "" then .ok (.list []) else match runL (lineO (gS s)) (Txt.split t ("\n" : Str)) with | .inl i => .bad "NoText" "line" (i : Nat) | .inr ds => .ok (.list ds)) := rfl
      rw [ed] at tell
      refine ⟨_, rfl, rfl, _, rfl, ?_⟩
      rw [decide_eq_false ns]
      refine iteF ⟨(by show 0 ≤ sizeLine; exact Nat.zero_le _), fun D nD => ?_⟩
      have s0 : Same H (upd H D (.lst [])) := same_new nD
      refine ⟨_, rfl, rfl, _, rfl, ?_⟩
      by_cases c0 : t = ""
      · rw [if_pos c0] at tell
        rw [decide_eq_true (show V.str t = V.str "" by rw [c0])]
        exact iteF ⟨_, rfl, tell _ _ _ _ s0 (.lst (.of upd_same) .nil) rfl⟩
      rw [if_neg c0] at tell
      rw [decide_eq_false (show ¬ V.str t = V.str "" from fun z => c0 (V.str.inj z))]
      have wk := words_ok tl_nl nl_all ht
      have many := split_many (x := t) tl_nl nl_all
      refine iteT ⟨_, rfl, ⟨_, rfl⟩, _, _, rfl, rfl, (by decide +kernel), by rw [sizeLine_eq]; omega, fun p np => ?_⟩
      generalize Txt.split t ("\n" : Str) = ls at tell wk many ⊢
      have w0 := same_new (o := .lst (ls.map V.str)) np
      have hp0 : upd (upd H D (.lst [])) p (.lst (ls.map V.str)) p = some (.lst (ls.map V.str)) := upd_same
      have hD0 := w0 D _ (upd_same (H := H) (a := D) (o := .lst []))
      have sp0 := s0.trans w0
      have nDp : p ≠ D := Ne.symm (ne_of_none (upd_same (H := H) (a := D) (o := .lst [])) np)
      generalize upd (upd H D (.lst [])) p (.lst (ls.map V.str)) = G0 at hp0 hD0 sp0 ⊢
      have to : ∀ {J : Hp}, (∀ b o, b ≠ D → G0 b = some o → J b = some o) → Same H J := fun kp b o e => kp b o (ne_of_none e nD) (sp0 _ _ e)
      refine ⟨_, rfl, _, _, rfl, .inl (.of hp0), _, rfl, by omega, by rw [List.length_map]; omega, for_it (n := ls.length) (by rw [List.length_map]; exact walk_range) (fun i σ' H' => ∃ (z6 z7 : Option V) (ys : List V) (ds : List PyData), σ' = [some (.int s), some (.str t), none, none, some (.ref D), some (.ref p), z6, z7] ∧ (∀ b o, b ≠ D → G0 b = some o → H' b = some o) ∧ H' D = some (.lst ys) ∧ DpAll K H' ys ds ∧ Paired (fun l d => lineO (gS s) l = some d) (ls.take i) ds) ⟨none, none, [], [], rfl, (fun _ _ _ e => e), hD0, .nil, .nil⟩ (fun _ _ _ _ _ => trivial) ?_ ?_⟩
      · rintro i z σ' H0 H1 hi ⟨z6, z7, ys, ds, rfl, kp, hD, hys, pc⟩ ⟨rfl, rfl⟩
        have el := List.getElem?_eq_getElem hi
        generalize ls[i] = l at el
        have ll := wk.2 l (List.mem_of_getElem? el)
        have hat : atI (ls.map V.str) ((0 : Int) + (i : Nat)) = some (.str l) := by
          rw [show (0 : Int) + (i : Nat) = ((i : Nat) : Int) by omega]
          exact atI_nat (by rw [List.getElem?_map, el]; rfl)
        refine ⟨_, rfl, _, rfl, _, rfl, p, _, _, _, rfl, rfl, .of (kp p _ nDp hp0), hat, s, l, rfl, by omega, ll, fun v J s2 dv => ?_⟩
        have hD2 := s2 _ _ hD
        have kp2 : ∀ b o, b ≠ D → G0 b = some o → J b = some o := fun b o n e => s2 _ _ (kp b o n e)
        have hys2 := dps_same s2 hys
        refine ⟨_, rfl, _, rfl, ?_⟩
        cases ec : lineO (gS s) l with
        | none =>
          rw [lineO_none ec] at dv
          cases dv
          rw [runL_bad pc el ec] at tell
          exact iteT ⟨_, rfl, tell _ _ _ J (to kp2) (.int _) (by rw [show (0 : Int) + (i : Nat) = ((i : Nat) : Int) by omega]; rfl)⟩
        | some d =>
          obtain ⟨eg, ne⟩ := lineO_some ec
          rw [eg] at dv
          have nld : NoL d := eg ▸ nl _
          have nv : v ≠ .non := fun z => by
            subst z
            cases dv
            exact ne rfl
          have lc := Paired.length pc
          have ly := dps_len hys
          rw [List.length_take] at lc
          rw [decide_eq_false nv]
          refine iteF ⟨_, rfl, .inl ⟨rfl, _, .of hD2⟩, _, rfl, D, ys, _, rfl, rfl, hD2, by rw [sizeLine_eq]; omega, _, _, ys ++ [v], ds ++ [d], rfl, fun b o n e => ?_, upd_same, ?_, paired_snoc pc el ec⟩
          · rw [upd_ne n]
            exact kp2 b o n e
          · have hn : ∀ d' ∈ ds, NoL d' := fun d' h => by
              obtain ⟨l', _, e'⟩ := paired_mem pc d' h
              exact (lineO_some e').1 ▸ nl _
            exact dps_app (dps_but (.lst hD2) But.upd hys2 hn) (.cons (dp_but (.lst hD2) But.upd dv nld) .nil)
      · rintro σ' H1 ⟨z6, z7, ys, ds, rfl, kp, hD, hys, pc⟩
        have pc := paired_full rfl pc
        rw [runL_all pc] at tell
        exact ⟨_, rfl, tell _ _ _ H1 (to kp) (.lst (.of hD) hys) rfl⟩
  | _ => exact iteT ⟨_, rfl, tell _ _ _ H (Same.refl _) (.int _) (by rcases (show s = 2 ∨ s = 0 ∨ s = 1 by omega) with rfl | rfl | rfl <;> rfl)⟩
end
end G

end M

set_option Elab.async false
set_option linter.all false
set_option maxRecDepth 100000
set_option maxHeartbeats 2000000
namespace M
open PySem PySem.Spec PyProof.Rows L2

abbrev two_ty : List V := [.ty "tuple", .ty "list"]
theorem of_ty {K : PySem.W.Frag} {H : Hp} {v : V} {k : Kd} (h : Of K H v k) (hk : k ≠ .obj) : TyX K H v (.type k.name) := by
  cases h with
  | non => exact .base .non
  | bl b => exact .base (.bl b)
  | int b => exact .base (.int b)
  | str b => exact .base (.str b)
  | list b => exact ty_sqL b
  | tuple b => exact ty_sqT b
  | dict b => exact b
  | obj b _ => exact absurd rfl hk
def rIs2 (K : PySem.W.Frag) : List V → Hp → VK → Prop := fun xs H Q => ∃ (v : V) (k : Kd) (tp : Addr), xs = [v, .ref tp] ∧ H tp = some (.tup two_ty) ∧ Of K H v k ∧ k ≠ .obj ∧ Q (.bl (k.is .tuple || k.is .list)) H
theorem call_is2 {X : Cx} : CallR X (.builtin "isinstance") (rIs2 X.K) := callR_imp call_isiT fun vs H Q ⟨v, k, tp, e, ht, h, hk, q⟩ => by
  subst e
  refine ⟨v, tp, two_ty, .type k.name, [.type "tuple", .type "list"], _, rfl, ht, .cons (.ty _) (.cons (.ty _) .nil), of_ty h hk, ?_, q⟩
  have h1 := kd_kit (K := X.K) k .tuple hk (by decide)
  have h2 := kd_kit (K := X.K) k .list hk (by decide)
  exact kitAny_cons h1 (fun e => kitAny_cons h2 (fun e2 => by rw [kitAny_nil, e, e2]; rfl) (fun e2 => by rw [e2, Bool.or_true])) (fun e => by rw [e, Bool.true_or])
theorem kdOf_obj (d : PyData) : kdOf d ≠ .obj := by
  cases d <;> simp [kdOf]
/-- what a due thing is made of -/
inductive Due : Nat → PyData → Prop where
  | str {n : Nat} (x : Str) : Due (n + 1) (.str x)
  | int {n : Nat} (i : Int) : Due (n + 1) (.int i)
  | tup {n : Nat} {ds : List PyData} (h : ∀ d ∈ ds, Due n d) (l : ds.length ≤ 100000) : Due (n + 1) (.tuple ds)
  | lst {n : Nat} {ds : List PyData} (h : ∀ d ∈ ds, Due n d) (l : ds.length ≤ 100000) : Due (n + 1) (.list ds)
theorem true_map {zs : List V} (h : ∀ (i : Nat) (y : V), zs[i]? = some y → y = .bl true) : zs = (List.replicate zs.length true).map V.bl := by
  rw [List.map_replicate]
  refine List.eq_replicate_iff.mpr ⟨rfl, fun y hy => ?_⟩
  obtain ⟨i, hi, e⟩ := List.mem_iff_getElem.mp hy
  exact h i y (by rw [List.getElem?_eq_getElem hi, e])
theorem true_all (n : Nat) : (List.replicate n true).all id = true := by
  rw [List.all_eq_true]
  intro x hx
  exact (List.mem_replicate.mp hx).2
theorem ix_seqK {X : Cx} (K : PySem.W.Frag) (hK : X.K = K) : IxR X (rIx K) := hK ▸ ix_seq
namespace G
section
variable {P : Program} {w : World} {K : PySem.W.Frag} {mg : Str → Option Value} {base : Heap}
def spS18 (K : PySem.W.Frag) (n : Nat) : Sp := fun vs H Q _ => ∃ (x y : V) (d : PyData), vs = [x, y] ∧ Dp K H x d ∧ Dp K H y d ∧ Due n d ∧ ∀ H', Same H H' → Q (.bl true) H'
theorem ca_l_same : ∀ (n : Nat) (T : Txt w K mg), Ca P w K mg base (n + 1) "_law_same" (spS18 K n)
  | 0, T => by
    refine ca_of (N := ["_law_one", "_law_due", "_law_k"]) (ps := ["_law_one", "_law_due"]) T.f_l_same T.g_law_same ⟨rfl, rfl, rfl, by decide +kernel, rfl, by decide +kernel, by decide +kernel⟩ (fun _ _ _ _ _ _ us hl => match us, hl with | [_, _], _ => rfl)
      (fun vs H Q E h => by obtain ⟨x, y, d, rfl, hx, hy, hd, q⟩ := h; rfl) (fun cdv A outer s H vs Q E hr h => ?_)
    have nd : (["_law_one", "_law_due", "_law_k"] : List Str).Nodup := by decide +kernel
    obtain ⟨x, y, d, rfl, hx, hy, hd, q⟩ := h
    cases hd
  | n + 1, T => by
    refine ca_of (N := ["_law_one", "_law_due", "_law_k"]) (ps := ["_law_one", "_law_due"]) T.f_l_same T.g_law_same ⟨rfl, rfl, rfl, by decide +kernel, rfl, by decide +kernel, by decide +kernel⟩ (fun _ _ _ _ _ _ us hl => match us, hl with | [_, _], _ => rfl)
      (fun vs H Q E h => by obtain ⟨x, y, d, rfl, hx, hy, hd, q⟩ := h; rfl) (fun cdv A outer s H vs Q E hr h => ?_)
    have nd : (["_law_one", "_law_due", "_law_k"] : List Str).Nodup := by decide +kernel
    obtain ⟨x, y, d, rfl, hx, hy, hd, q⟩ := h
    refine ⟨_, (pss_cons (ps_if (pt_val (pe_callB call_is2 (by rfl) T.b_isinstance boot_isinstance (pa_cons (pv 1) (pa_cons (pe_tup (pa_cons (pe_ty T.b_tuple boot_tuple) (pa_cons (pe_ty T.b_list boot_list) pa_nil))) pa_nil)))) (pss_cons (ps_if (PW.pt (pw_or (pt_cmpR op_ne (pe_is .tuple T.b_isinstance (pv 1) T.b_tuple boot_tuple) (pe_is .tuple T.b_isinstance (pv 0) T.b_tuple boot_tuple) (nomark _)) (pw_or1 (pt_not (pt_val (pe_callB call_is2 (by rfl) T.b_isinstance boot_isinstance (pa_cons (pv 0) (pa_cons (pe_tup (pa_cons (pe_ty T.b_tuple boot_tuple) (pa_cons (pe_ty T.b_list boot_list) pa_nil))) pa_nil)))))))) (pss_one (ps_ret pe_bl)) pss_nil)
      (pss_one (ps_ret (pe_and (pe_cmpR op_eq (pe_callB call_len_seq (by rfl) T.b_len PySem.boot_len (pa_cons (pv 0) pa_nil)) (pe_callB call_len_seq (by rfl) T.b_len PySem.boot_len (pa_cons (pv 1) pa_nil)) (nomark _)) (pe_one (pe_callB (cr_all rfl) (by rfl) T.b_all boot_all (pa_cons (pe_lc (own := [("_law_k", 2)]) (tt := tYes) rfl nd (pi_range1 rfl T.b_range (pa_cons (pe_callB call_len_seq (by rfl) T.b_len PySem.boot_len (pa_cons (pv 1) pa_nil)) pa_nil)) (blkOk_by (N := ["_law_one", "_law_due", "_law_k"]) (sc := defScope s_l_same) (by decide +kernel)) (fun _ _ _ _ _ => pg_name (i := 2) nd rfl (.inl rfl)) (fun _ _ _ _ _ => pts_nil) (fun _ _ _ _ _ => pe_ca (ca_l_same n T) hr (pa_cons (pe_ix (ix_seqK K rfl) (pv 0) (pv 2) (fun _ _ => rfl)) (pa_cons (pe_ix (ix_seqK K rfl) (pv 1) (pv 2) (fun _ _ => rfl)) pa_nil)) (by omega))) pa_nil))))))) pss_nil)
      (pss_cons (ps_if (pt_val (pe_is .str T.b_isinstance (pv 1) T.b_str boot_str)) (pss_one (ps_ret (pe_and (pe_is .str T.b_isinstance (pv 0) T.b_str boot_str) (pe_one (pe_cmpR op_eq (pv 0) (pv 1) (nomark _)))))) pss_nil)
      (pss_one (ps_ret (pe_and (pe_is .int T.b_isinstance (pv 0) T.b_int boot_int) (pe_and (pe_not (pe_is .bool T.b_isinstance (pv 0) T.b_bool boot_bool)) (pe_one (pe_cmpR op_eq (pv 0) (pv 1) (nomark _))))))))), ?_⟩
    have kx := dp_kd hx
    have ky := dp_kd hy
    refine ⟨_, rfl, (by show 2 ≤ sizeLine; decide), fun tp ntp => ⟨_, kdOf d, tp, rfl, upd_same, dp_kd (dp_same (same_new ntp) hy), kdOf_obj d, _, rfl, ?_⟩⟩
    have s1 : Same H (upd H tp (.tup two_ty)) := same_new ntp
    have hx1 := dp_same s1 hx
    have hy1 := dp_same s1 hy
    have q1 : ∀ H', Same (upd H tp (.tup two_ty)) H' → Q (.bl true) H' := fun H' s => q H' (s1.trans s)
    generalize upd H tp (.tup [V.ty "tuple", V.ty "list"]) = H1 at hx1 hy1 q1 ⊢
    have kx := dp_kd hx1
    have ky := dp_kd hy1
    by_cases hseq : kdOf d = .list ∨ kdOf d = .tuple
    · have e1 : ((kdOf d).is .tuple || (kdOf d).is .list) = true := by rcases hseq with h | h <;> rw [h] <;> rfl
      obtain ⟨a, b, xs, ys, ds, rfl, rfl, sa, sb, dx, dy, hds, hl⟩ : ∃ (a b : Addr) (xs ys : List V) (ds : List PyData), x = .ref a ∧ y = .ref b ∧ (SqL K H1 a xs ∨ SqT K H1 a xs) ∧ (SqL K H1 b ys ∨ SqT K H1 b ys) ∧ DpAll K H1 xs ds ∧ DpAll K H1 ys ds ∧ (∀ d ∈ ds, Due n d) ∧ ds.length ≤ 100000 := by
        cases hd with
        | str z => rcases hseq with h | h <;> cases h
        | int z => rcases hseq with h | h <;> cases h
        | tup h l => cases hx1 with | tup h1 h2 => cases hy1 with | tup h3 h4 => exact ⟨_, _, _, _, _, rfl, rfl, .inr h1, .inr h3, h2, h4, h, l⟩
        | lst h l => cases hx1 with | lst h1 h2 => cases hy1 with | lst h3 h4 => exact ⟨_, _, _, _, _, rfl, rfl, .inl h1, .inl h3, h2, h4, h, l⟩
      have lx := dps_len dx
      have ly := dps_len dy
      rw [e1]
      refine iteT ⟨_, rfl, _, _, rfl, ky, _, rfl, _, _, rfl, kx, rfl, _, rfl, ?_⟩
      rw [decide_eq_true rfl]
      refine iteF ⟨_, rfl, (by show 2 ≤ sizeLine; decide), fun tp2 ntp2 => ⟨_, kdOf d, tp2, rfl, upd_same, dp_kd (dp_same (same_new ntp2) hx1), kdOf_obj d, _, rfl, ?_⟩⟩
      rw [e1]
      have s2 : Same H1 (upd H1 tp2 (.tup two_ty)) := same_new ntp2
      have sa2 := sa.imp s2.seq (same_t s2)
      have sb2 := sb.imp s2.seq (same_t s2)
      have dx2 := dps_same s2 dx
      have dy2 := dps_same s2 dy
      have q2 : ∀ H', Same (upd H1 tp2 (.tup two_ty)) H' → Q (.bl true) H' := fun H' s => q1 H' (s2.trans s)
      generalize upd H1 tp2 (.tup [V.ty "tuple", V.ty "list"]) = H2 at sa2 sb2 dx2 dy2 q2 ⊢
      refine iteF ⟨_, rfl, _, _, rfl, sa2, _, rfl, _, _, rfl, sb2, rfl, _, rfl, ?_⟩
      rw [decide_eq_true (show V.int (xs.length : Nat) = V.int (ys.length : Nat) from by rw [lx, ly])]
      refine iteT ⟨_, rfl, _, _, rfl, sb2, _, rfl, by omega, by omega, fun D nD => ?_⟩
      refine lc_out (n := ys.length) walk_range nD (by omega) (fun i y H => y = .bl true) (fun _ _ _ _ _ _ h => h) (fun H' s => trivial) (fun i x H' H3 N F hi s y k => ?_) (fun H3 zs s3 hD el hz => ?_)
      · obtain ⟨rfl, rfl⟩ := y
        have ei : (0 : Int) + (i : Nat) = ((i : Nat) : Int) := by omega
        obtain ⟨u, hu, du⟩ := dps_at dx2 (List.getElem?_eq_getElem (by omega : i < ds.length))
        obtain ⟨v, hv, dv⟩ := dps_at dy2 (List.getElem?_eq_getElem (by omega : i < ds.length))
        have rx : ∀ G : VK, G u H3 → rIx K (.ref a) (.int (0 + (i : Nat))) H3 G := fun G g => sa2.elim (fun h => .inl ⟨a, xs, _, u, rfl, rfl, s.seq h, by rw [ei]; exact atI_nat hu, g⟩) (fun h => .inr (.inl ⟨a, xs, _, u, rfl, rfl, same_t s h, by rw [ei]; exact atI_nat hu, g⟩))
        have ry : ∀ G : VK, G v H3 → rIx K (.ref b) (.int (0 + (i : Nat))) H3 G := fun G g => sb2.elim (fun h => .inl ⟨b, ys, _, v, rfl, rfl, s.seq h, by rw [ei]; exact atI_nat hv, g⟩) (fun h => .inr (.inl ⟨b, ys, _, v, rfl, rfl, same_t s h, by rw [ei]; exact atI_nat hv, g⟩))
        refine ⟨rfl, iteT ⟨_, rfl, _, rfl, rx _ ⟨_, rfl, _, rfl, ry _ ?_⟩⟩⟩
        exact ⟨u, v, ds[i], rfl, dp_same s du, dp_same s dv, hds _ (List.getElem_mem _), fun H4 s4 => k _ _ s4 rfl⟩
      · have e := true_map hz
        refine ⟨D, List.replicate zs.length true, rfl, by rw [← e]; exact .of hD, ?_⟩
        rw [true_all]
        exact q2 H3 s3
    · have e1 : ((kdOf d).is .tuple || (kdOf d).is .list) = false := by
        cases e : kdOf d <;> simp_all [Kd.is]
      rw [e1]
      refine iteF ?_
      cases hd with
      | str h =>
        cases dp_str hx1
        cases dp_str hy1
        refine ⟨_, rfl, _, _, rfl, ky, _, rfl, iteT ⟨_, rfl, _, _, rfl, kx, _, rfl, iteT ⟨_, rfl, _, rfl, rfl, ?_⟩⟩⟩
        rw [decide_eq_true rfl]
        exact q1 _ (Same.refl _)
      | int i =>
        cases dp_int hx1
        cases dp_int hy1
        refine ⟨_, rfl, _, _, rfl, ky, _, rfl, iteF ⟨_, rfl, _, _, rfl, kx, _, rfl, iteT ⟨_, rfl, _, _, rfl, kx, _, rfl, _, rfl, iteT ⟨_, rfl, _, rfl, rfl, ?_⟩⟩⟩⟩
        rw [decide_eq_true rfl]
        exact q1 _ (Same.refl _)
      | tup h l => exact absurd (.inr rfl) hseq
      | lst h l => exact absurd (.inl rfl) hseq
end
end G

end M

set_option Elab.async false
set_option linter.all false
set_option maxRecDepth 100000
set_option maxHeartbeats 2000000
namespace M
open PySem PySem.Spec PyProof.Rows L2

inductive RsOk : Rs → Prop where
  | ok (d : PyData) : RsOk (.ok d)
  | row (i : Int) : RsOk (.bad "NoRow" "index" i)
  | wvg (i : Int) : RsOk (.bad "NoWeaving" "index" i)
  | txt (i : Int) : RsOk (.bad "NoText" "line" i)
  | st : RsOk (.bad0 "NoState")
theorem wrR_ok (s : Int) (d : PyData) : RsOk (wrR s d) := by
  unfold wrR
  split
  · unfold rowR
    split
    · split
      · exact .row _
      · exact .ok _
    · exact .row _
  · split
    · unfold wvgR
      split
      · split
        · exact .wvg _
        · exact .ok _
      · exact .wvg _
    · unfold stateR
      split
      · exact .ok _
      · exact .st
theorem readR_ok (g : List Str → PyData) (d : PyData) : RsOk (readR g d) := by
  unfold readR
  split
  · split
    · exact .ok _
    · split
      · exact .txt _
      · exact .ok _
  · exact .txt _
theorem rdR_ok (s : Int) (d : PyData) : RsOk (rdR s d) := by
  unfold rdR
  split
  · exact readR_ok _ d
  · split
    · exact readR_ok _ d
    · unfold rdStR
      split
      · split
        · split
          · exact .ok _
          · exact .txt _
        · exact .txt _
      · exact .txt _
namespace G
section
variable {P : Program} {w : World} {K : PySem.W.Frag} {mg : Str → Option Value} {base : Heap}
def spWr (K : PySem.W.Frag) : Sp := fun vs H Q E => ∃ (s : Int) (v : V) (d : PyData) (n : Nat), vs = [.int s, v] ∧ (0 ≤ s ∧ s ≤ 2) ∧ Dp K H v d ∧ fit n d ∧ n ≤ 50 ∧ Ret K H Q E (wrR s d)
theorem cx_l_writes (T : Txt w K mg) : CaX P w K mg base 12 "_law_writes" (spWr K) := by
  refine ca_ofX (N := ["_law_sort", "_law_thing"]) (ps := ["_law_sort", "_law_thing"]) T.f_l_writes T.g_law_writes ⟨rfl, rfl, rfl, by decide +kernel, rfl, by decide +kernel, by decide +kernel⟩ (fun _ _ _ _ _ _ us hl => match us, hl with | [_, _], _ => rfl)
    (fun vs H Q E h => by obtain ⟨s, v, d, n, rfl, hs, hd, ft, hn, q⟩ := h; rfl) (fun cdv A outer s H vs Q E hr h => ?_)
  have nd : (["_law_sort", "_law_thing"] : List Str).Nodup := by decide +kernel
  obtain ⟨s, v, d, n, rfl, hs, hd, ft, hn, q⟩ := h
  refine ⟨_, (pss_cons (ps_if (pt_cmpR op_eq (pv 0) pe_int (nomark _)) (pss_one (ps_ret (pe_caX (cx_row_text T) hr (takes_of rfl rfl rfl rfl) (pa_cons (pv 1) pa_nil)))) pss_nil)
      (pss_cons (ps_if (pt_cmpR op_eq (pv 0) pe_int (nomark _)) (pss_one (ps_ret (pe_caX (cx_weaving_text T) hr (takes_of rfl rfl rfl rfl) (pa_cons (pv 1) pa_nil)))) pss_nil)
      (pss_one (ps_ret (pe_caX (cx_state_text T) hr (takes_of rfl rfl rfl rfl) (pa_cons (pv 1) pa_nil)))))), ?_⟩
  rcases (show s = 0 ∨ s = 1 ∨ s = 2 by omega) with rfl | rfl | rfl
  · exact ⟨_, rfl, rfl, _, rfl, iteT ⟨_, rfl, v, d, n, rfl, hd, ft, hn, q⟩⟩
  · exact ⟨_, rfl, rfl, _, rfl, iteF ⟨_, rfl, rfl, _, rfl, iteT ⟨_, rfl, v, d, n, rfl, hd, ft, hn, q⟩⟩⟩
  · exact ⟨_, rfl, rfl, _, rfl, iteF ⟨_, rfl, rfl, _, rfl, iteF ⟨_, rfl, v, d, n, rfl, hd, ft, hn, q⟩⟩⟩
def spRds (K : PySem.W.Frag) : Sp := fun vs H Q E => ∃ (s : Int) (v : V) (d : PyData), vs = [.int s, v] ∧ (0 ≤ s ∧ s ≤ 2) ∧ Dp K H v d ∧ textOk d ∧ Ret K H Q E (rdR s d)
theorem cx_l_reads (T : Txt w K mg) : CaX P w K mg base 12 "_law_reads" (spRds K) := by
  refine ca_ofX (N := ["_law_sort", "_law_text"]) (ps := ["_law_sort", "_law_text"]) T.f_l_reads T.g_law_reads ⟨rfl, rfl, rfl, by decide +kernel, rfl, by decide +kernel, by decide +kernel⟩ (fun _ _ _ _ _ _ us hl => match us, hl with | [_, _], _ => rfl)
    (fun vs H Q E h => by obtain ⟨s, v, d, rfl, hs, hd, ht, q⟩ := h; rfl) (fun cdv A outer s H vs Q E hr h => ?_)
  have nd : (["_law_sort", "_law_text"] : List Str).Nodup := by decide +kernel
  obtain ⟨s, v, d, rfl, hs, hd, ht, q⟩ := h
  refine ⟨_, (pss_cons (ps_if (pt_cmpR op_eq (pv 0) pe_int (nomark _)) (pss_one (ps_ret (pe_caX (cx_read_row T) hr (takes_of rfl rfl rfl rfl) (pa_cons (pv 1) pa_nil)))) pss_nil)
      (pss_cons (ps_if (pt_cmpR op_eq (pv 0) pe_int (nomark _)) (pss_one (ps_ret (pe_caX (cx_read_weaving T) hr (takes_of rfl rfl rfl rfl) (pa_cons (pv 1) pa_nil)))) pss_nil)
      (pss_one (ps_ret (pe_caX (cx_read_state T) hr (takes_of rfl rfl rfl rfl) (pa_cons (pv 1) pa_nil)))))), ?_⟩
  rcases (show s = 0 ∨ s = 1 ∨ s = 2 by omega) with rfl | rfl | rfl
  · exact ⟨_, rfl, rfl, _, rfl, iteT ⟨_, rfl, v, d, rfl, hd, ht, q⟩⟩
  · exact ⟨_, rfl, rfl, _, rfl, iteF ⟨_, rfl, rfl, _, rfl, iteT ⟨_, rfl, v, d, rfl, hd, ht, q⟩⟩⟩
  · exact ⟨_, rfl, rfl, _, rfl, iteF ⟨_, rfl, rfl, _, rfl, iteF ⟨_, rfl, v, d, rfl, hd, ht, q⟩⟩⟩
def spAsk (K : PySem.W.Frag) : Sp := fun vs H Q _ => ∃ (b : Bool) (s : Int) (v : V) (d : PyData) (n : Nat), vs = [.bl b, .int s, v] ∧ (0 ≤ s ∧ s ≤ 2) ∧ Dp K H v d ∧ fit n d ∧ n ≤ 50 ∧ textOk d ∧ ∀ v' H', Same H H' → Dp K H' v' (resD (if b = true then rdR s d else wrR s d)) → Q v' H'
theorem ca_l_asked (T : Txt w K mg) : Ca P w K mg base 14 "_law_asked" (spAsk K) := by
  refine ca_of (N := ["_law_reading", "_law_sort", "_law_thing", "_law_told", "error"]) (ps := ["_law_reading", "_law_sort", "_law_thing"]) T.f_l_asked T.g_law_asked ⟨rfl, rfl, rfl, by decide +kernel, rfl, by decide +kernel, by decide +kernel⟩ (fun _ _ _ _ _ _ us hl => match us, hl with | [_, _, _], _ => rfl)
    (fun vs H Q E h => by obtain ⟨b, s, v, d, n, rfl, hs, hd, ft, hn, ht, q⟩ := h; rfl) (fun cdv A outer s H vs Q E hr h => ?_)
  have nd : (["_law_reading", "_law_sort", "_law_thing", "_law_told", "error"] : List Str).Nodup := by decide +kernel
  obtain ⟨b, s, v, d, n, rfl, hs, hd, ft, hn, ht, q⟩ := h
  refine ⟨_, (pss_cons (ps_set (i := 3) nd rfl (.inl rfl) (pe_tup (pa_cons pe_str (pa_cons pe_int pa_nil))))
      (pss_cons (ps_tryH (hands_as (i := 4) ⟨rfl, by decide, .inl T.g_NoRow⟩ rfl nd rfl rfl (fun _ _ _ _ _ hz hf => by exact (pss_one (ps_set (i := 3) nd rfl (.inl rfl) (pe_tup (pa_cons pe_str (pa_cons (pe_xf (C := He.ga K "NoRow") (oexB_ok T.e_NoRow).xf (oexB_ok T.e_NoRow).no hz hf (pv 4)) pa_nil)))))) (hands_as (i := 4) ⟨rfl, by decide, .inl T.g_NoWeaving⟩ rfl nd rfl rfl (fun _ _ _ _ _ hz hf => by exact (pss_one (ps_set (i := 3) nd rfl (.inl rfl) (pe_tup (pa_cons pe_str (pa_cons (pe_xf (C := He.ga K "NoWeaving") (oexB_ok T.e_NoWeaving).xf (oexB_ok T.e_NoWeaving).no hz hf (pv 4)) pa_nil)))))) (hands_one ⟨rfl, by decide, .inl T.g_NoState⟩ rfl (fun _ _ _ _ _ hz hf => by exact (pss_one (ps_set (i := 3) nd rfl (.inl rfl) (pe_tup (pa_cons pe_str (pa_cons pe_int pa_nil)))))) (hands_as (i := 4) ⟨rfl, by decide, .inl T.g_NoText⟩ rfl nd rfl rfl (fun _ _ _ _ _ hz hf => by exact (pss_one (ps_set (i := 3) nd rfl (.inl rfl) (pe_tup (pa_cons pe_str (pa_cons (pe_xf (C := He.ga K "NoText") (oexB_ok T.e_NoText).xf (oexB_ok T.e_NoText).no hz hf (pv 4)) pa_nil)))))) (hands_one ⟨rfl, by decide, .inl T.g_PastError⟩ rfl (fun _ _ _ _ _ hz hf => by exact (pss_one (ps_set (i := 3) nd rfl (.inl rfl) (pe_tup (pa_cons pe_str (pa_cons pe_int pa_nil)))))) (hands_nil (Wout := fun _ _ _ _ => False) rfl rfl takes0)))))) rfl rfl (fun W pn xe tk _ => by exact (pss_one (ps_if (pt_val (pv 0)) (pss_one (ps_set (i := 3) nd rfl (.inl rfl) (pe_tup (pa_cons pe_str (pa_cons (pe_caX (cx_l_reads T) hr tk (pa_cons (pv 1) (pa_cons (pv 2) pa_nil))) pa_nil))))) (pss_one (ps_set (i := 3) nd rfl (.inl rfl) (pe_tup (pa_cons pe_str (pa_cons (pe_caX (cx_l_writes T) hr tk (pa_cons (pv 1) (pa_cons (pv 2) pa_nil))) pa_nil)))))))) pss_nil)
      (pss_one (ps_ret (pv 3))))), ?_⟩
  have lk : ∀ (f : Str) (y : V), ([(f, y)] : List (Str × V)).lookup f = some y := fun f y => (lookup_put f f y []).trans (if_pos rfl)
  refine ⟨(by show 2 ≤ sizeLine; decide), fun t0 n0 => ?_⟩
  have s0 := same_new (o := .tup [.str "none", .int 0]) n0
  generalize upd H t0 (.tup [.str "none", .int 0]) = H0 at s0 ⊢
  have hd0 := dp_same s0 hd
  cases b
  case' true =>
    have ro := rdR_ok s d
    have q : ∀ v' H', Same H H' → Dp K H' v' (resD (rdR s d)) → Q v' H' := q
    refine ⟨_, rfl, _, rfl, iteT ⟨_, rfl, _, rfl, s, v, d, rfl, hs, hd0, ht, ?_⟩⟩
    generalize rdR s d = r at ro q ⊢
  case' false =>
    have ro := wrR_ok s d
    have q : ∀ v' H', Same H H' → Dp K H' v' (resD (wrR s d)) → Q v' H' := q
    refine ⟨_, rfl, _, rfl, iteF ⟨_, rfl, _, rfl, s, v, d, n, rfl, hs, hd0, ft, hn, ?_⟩⟩
    generalize wrR s d = r at ro q ⊢
  all_goals
    have tell : ∀ (x : Str) (y : V) (dy : PyData) (H1 : Hp), Same H H1 → Dp K H1 y dy → resD r = .tuple [.str x, dy] → ∀ t, H1 t = none → Q (.ref t) (upd H1 t (.tup [.str x, y])) := by
      intro x y dy H1 s1 hy e t nt
      refine q _ _ (s1.trans (same_new nt)) ?_
      rw [e]
      exact .tup (.of upd_same) (.cons (.str _) (.cons (dp_same (same_new nt) hy) .nil))
    cases ro with
    | ok d2 =>
      intro v2 H2 s2 d2
      exact ⟨(by show 2 ≤ sizeLine; decide), fun t nt => ⟨_, rfl, tell _ _ _ H2 (s0.trans s2) d2 rfl t nt⟩⟩
    | row i =>
      intro H2 dd s2 nd2
      refine ⟨true, T.xm_NoRow, fun _ a na => ?_, fun z => nomatch z⟩
      exact ⟨_, rfl, rfl, rfl, dd, _, .int i, rfl, upd_same, lk _ _, (by show 2 ≤ sizeLine; decide), fun t nt => ⟨_, rfl, tell _ _ _ _ ((s0.trans s2).trans (same_new nd2)) (.int i) rfl t nt⟩⟩
    | wvg i =>
      intro H2 dd s2 nd2
      refine ⟨false, T.xm_NoWeaving_NoRow, (fun z => nomatch z), fun _ => ⟨true, T.xm_NoWeaving, fun _ a na => ?_, fun z => nomatch z⟩⟩
      exact ⟨_, rfl, rfl, rfl, dd, _, .int i, rfl, upd_same, lk _ _, (by show 2 ≤ sizeLine; decide), fun t nt => ⟨_, rfl, tell _ _ _ _ ((s0.trans s2).trans (same_new nd2)) (.int i) rfl t nt⟩⟩
    | st =>
      intro H2 s2
      refine ⟨false, T.xm_NoState_NoRow, (fun z => nomatch z), fun _ => ⟨false, T.xm_NoState_NoWeaving, (fun z => nomatch z), fun _ => ⟨true, T.xm_NoState, fun _ a na => ?_, fun z => nomatch z⟩⟩⟩
      exact ⟨(by show 2 ≤ sizeLine; decide), fun t nt => ⟨_, rfl, tell _ _ _ _ (s0.trans s2) (.int 0) rfl t nt⟩⟩
    | txt i =>
      intro H2 dd s2 nd2
      refine ⟨false, T.xm_NoText_NoRow, (fun z => nomatch z), fun _ => ⟨false, T.xm_NoText_NoWeaving, (fun z => nomatch z), fun _ => ⟨false, T.xm_NoText_NoState, (fun z => nomatch z), fun _ => ⟨true, T.xm_NoText, fun _ a na => ?_, fun z => nomatch z⟩⟩⟩⟩
      exact ⟨_, rfl, rfl, rfl, dd, _, .int i, rfl, upd_same, lk _ _, (by show 2 ≤ sizeLine; decide), fun t nt => ⟨_, rfl, tell _ _ _ _ ((s0.trans s2).trans (same_new nd2)) (.int i) rfl t nt⟩⟩
end
end G

end M

set_option Elab.async false
set_option linter.all false
set_option maxRecDepth 100000
set_option maxHeartbeats 2000000
namespace M
open PySem PySem.Spec PyProof.Rows L2

theorem due_call {n : Nat} (c : Str × Int) : Due (n + 2) (callD c) := .tup (fun d hd => by
  rcases List.mem_cons.mp hd with e | hd
  · subst e
    exact .str _
  · rw [List.mem_singleton.mp hd]
    exact .int _) (by show 2 ≤ 100000; decide)
theorem due_item {n : Nat} (t : Itm) : Due (n + 3) (itemD t) := by
  cases t with
  | step i =>
    refine .tup (fun d hd => ?_) (by show 2 ≤ 100000; decide)
    rcases List.mem_cons.mp hd with e | hd
    · subst e
      exact .str _
    · rw [List.mem_singleton.mp hd]
      exact .int _
  | call i c =>
    refine .tup (fun d hd => ?_) (by show 3 ≤ 100000; decide)
    rcases List.mem_cons.mp hd with e | hd
    · subst e
      exact .str _
    rcases List.mem_cons.mp hd with e | hd
    · subst e
      exact .int _
    · rw [List.mem_singleton.mp hd]
      exact due_call c
theorem fit_item {n : Nat} {t : Itm} (h : ItemOk t) : fit (n + 2) (itemD t) := by
  have ss : fit (n + 1) (.str "step") := ⟨by decide +kernel, by decide +kernel⟩
  have sc : fit (n + 1) (.str "call") := ⟨by decide +kernel, by decide +kernel⟩
  cases t with
  | step i =>
    refine ⟨by show 2 ≤ 100000; decide, fun d hd => ?_⟩
    rcases List.mem_cons.mp hd with e | hd
    · exact e ▸ ss
    · rw [List.mem_singleton.mp hd]
      trivial
  | call i c =>
    refine ⟨by show 3 ≤ 100000; decide, fun d hd => ?_⟩
    rcases List.mem_cons.mp hd with e | hd
    · exact e ▸ sc
    rcases List.mem_cons.mp hd with e | hd
    · subst e
      trivial
    · rw [List.mem_singleton.mp hd]
      exact fit_call h.2
theorem due_ints {n : Nat} {hs : List Int} (h : hs.length ≤ 100000) : Due (n + 2) (.tuple (hs.map PyData.int)) := .tup (fun d hd => by
  obtain ⟨i, _, rfl⟩ := List.mem_map.mp hd
  exact .int _) (by rw [List.length_map]; exact h)
theorem paired_at {A B : Type} {R : A → B → Prop} : ∀ {xs : List A} {ys : List B}, Paired R xs ys → ∀ (i : Nat) (x : A), xs[i]? = some x → ∃ y, ys[i]? = some y ∧ R x y
  | _, _, .nil, i, x, e => by simp at e
  | _, _, .cons h t, 0, x, e => by
    cases (Option.some.inj e)
    exact ⟨_, rfl, h⟩
  | _, _, .cons h t, i + 1, x, e => paired_at t i x e
theorem read_len {g : List Str → PyData} {t : Str} {ds : List PyData} (h : readR g (.str t) = .ok (.list ds)) : ds.length ≤ t.length + 1 := by
  have h : (if t = "" then Rs.ok (.list []) else match runL (lineO g) (Txt.split t ("\n" : Str)) with | .inl i => .bad "NoText" "line" (i : Nat) | .inr ds => .ok (.list ds)) = Rs.ok (.list ds) := h
  by_cases c0 : t = ""
  · rw [if_pos c0] at h
    cases h
    exact Nat.zero_le _
  · rw [if_neg c0] at h
    split at h
    · cases h
    · rename_i e
      cases h
      have l := Paired.length (runL_inr e)
      have := split_many (x := t) tl_nl nl_all
      omega
/-- what is read: small, and fit to be compared -/
theorem read_fit {s : Int} {t : Str} {e : PyData} (h : rdR s (.str t) = .ok e) (ht : t.length ≤ 50000) : fit 4 e ∧ Due 6 e ∧ textOk e ∧ ∀ ds, e = .list ds → ds.length ≤ 50001 := by
  unfold rdR at h
  by_cases h0 : s = 0
  · rw [if_pos h0] at h
    obtain ⟨ds, cs, rfl, hc, hj⟩ := rt2 (Ok := CallOk) (fun c => asCall_of) (fun l d => gC_ok) h
    have p := runL_inr hc
    have lp := Paired.length p
    have key : ∀ d ∈ ds, ∃ c, d = callD c ∧ CallOk c := by
      intro d hd
      obtain ⟨i, hi, e⟩ := List.mem_iff_getElem.mp hd
      obtain ⟨c, _, hcc⟩ := paired_at p i d (by rw [List.getElem?_eq_getElem hi, e])
      exact ⟨c, asCall_ok hcc⟩
    have ln : ds.length ≤ 50001 := by
      have := read_len h
      omega
    refine ⟨⟨by omega, fun d hd => ?_⟩, .lst (fun d hd => ?_) (by omega), trivial, fun ds' z => by cases z; exact ln⟩
    · obtain ⟨c, rfl, o⟩ := key d hd
      exact fit_call o
    · obtain ⟨c, rfl, o⟩ := key d hd
      exact due_call c
  rw [if_neg h0] at h
  by_cases h1 : s = 1
  · rw [if_pos h1] at h
    obtain ⟨ds, cs, rfl, hc, hj⟩ := rt2 (Ok := ItemOk) (fun c => asItem_of) (fun l d => gI_ok) h
    have p := runL_inr hc
    have lp := Paired.length p
    have key : ∀ d ∈ ds, ∃ c, d = itemD c ∧ ItemOk c := by
      intro d hd
      obtain ⟨i, hi, e⟩ := List.mem_iff_getElem.mp hd
      obtain ⟨c, _, hcc⟩ := paired_at p i d (by rw [List.getElem?_eq_getElem hi, e])
      exact ⟨c, asItem_ok hcc⟩
    have ln : ds.length ≤ 50001 := by
      have := read_len h
      omega
    refine ⟨⟨by omega, fun d hd => ?_⟩, .lst (fun d hd => ?_) (by omega), trivial, fun ds' z => by cases z; exact ln⟩
    · obtain ⟨c, rfl, o⟩ := key d hd
      exact fit_item o
    · obtain ⟨c, rfl, o⟩ := key d hd
      exact due_item c
  rw [if_neg h1] at h
  have h : (match runL (smallD 8) (Txt.split t (" " : Str)) with | .inr hs => if hs.length ≤ 6 then Rs.ok (.tuple (hs.map PyData.int)) else .bad "NoText" "line" 0 | .inl _ => .bad "NoText" "line" 0) = Rs.ok e := h
  split at h
  · split at h
    · rename_i hs _ l6
      cases h
      exact ⟨⟨by rw [List.length_map]; omega, fun d hd => by obtain ⟨i, _, rfl⟩ := List.mem_map.mp hd; trivial⟩, due_ints (by omega), trivial, fun ds z => by cases z⟩
    · cases h
  · cases h
theorem due_bad {r : Rs} (o : RsOk r) (h : ∀ e, r = .ok e → Due 7 e) : Due 8 (resD r) := by
  have two : ∀ (x : Str) (d : PyData), Due 7 d → Due 8 (.tuple [.str x, d]) := fun x d hd => .tup (fun e he => by
    rcases List.mem_cons.mp he with z | he
    · subst z
      exact .str _
    · rw [List.mem_singleton.mp he]
      exact hd) (by show 2 ≤ 100000; decide)
  cases o with
  | ok d => exact two _ _ (h d rfl)
  | row i => exact two _ _ (.int _)
  | wvg i => exact two _ _ (.int _)
  | txt i => exact two _ _ (.int _)
  | st => exact two _ _ (.int _)
theorem due_up : ∀ {n m : Nat} {d : PyData}, Due n d → n ≤ m → Due m d
  | _, 0, _, h, l => by
    cases h <;> omega
  | _, m + 1, _, .str x, _ => .str x
  | _, m + 1, _, .int i, _ => .int i
  | n + 1, m + 1, _, .tup h l, k => .tup (fun d hd => due_up (h d hd) (Nat.le_of_succ_le_succ k)) l
  | n + 1, m + 1, _, .lst h l, k => .lst (fun d hd => due_up (h d hd) (Nat.le_of_succ_le_succ k)) l
theorem due_wr (s : Int) (d : PyData) : Due 8 (resD (wrR s d)) := due_bad (wrR_ok s d) fun e h => by
  obtain ⟨t, rfl, _⟩ := written_read h
  exact .str t
theorem due_rd (s : Int) (d : PyData) (ht : textOk d) : Due 8 (resD (rdR s d)) := due_bad (rdR_ok s d) fun e h => by
  cases d with
  | str t => exact due_up (read_fit h ht.1).2.1 (by decide)
  | _ =>
    unfold rdR at h
    split at h
    · cases h
    · split at h
      · cases h
      · cases h
/-- things that the law writes: not too many items -/
def fewOk (d : PyData) : Prop := ∀ ds, d = .list ds → ds.length ≤ 1000
theorem join_len {y : Str} {ls : List Str} {k : Nat} (hk : ∀ l ∈ ls, l.length ≤ k) : (Txt.join y ls).length ≤ ls.length * (k + y.length) := by
  rw [tl_len, TL.join_eq, TL.tl_join]
  induction ls with
  | nil => exact Nat.zero_le _
  | cons l r ih =>
    have h1 := hk l List.mem_cons_self
    have h2 := ih fun x hx => hk x (List.mem_cons_of_mem _ hx)
    rw [tl_len] at h1
    rw [tl_len y] at h2 ⊢
    cases r with
    | nil =>
      show (TL.tl l).length ≤ 1 * _
      omega
    | cons m r =>
      show (TL.tl l ++ (TL.tl y ++ TL.joinL (TL.tl y) ((m :: r).map TL.tl))).length ≤ _
      rw [List.length_append, List.length_append]
      generalize (TL.joinL (TL.tl y) ((m :: r).map TL.tl)).length = A at h2 ⊢
      rw [List.length_cons, Nat.succ_mul]
      generalize (m :: r).length * (k + (TL.tl y).length) = B at h2 ⊢
      omega
theorem join_signs {y : Str} : ∀ {ls : List Str}, (∀ l ∈ ls, ∀ c ∈ TL.tl l, c < 1114112) → (∀ c ∈ TL.tl y, c < 1114112) → ∀ c ∈ TL.tl (Txt.join y ls), c < 1114112
  | [], _, _, c, hc => by
    rw [TL.join_eq, TL.tl_join] at hc
    cases hc
  | [l], h, _, c, hc => by
    rw [TL.join_eq, TL.tl_join] at hc
    exact h l List.mem_cons_self c hc
  | l :: m :: r, h, hy, c, hc => by
    rw [TL.join_eq, TL.tl_join] at hc
    have hc : c ∈ TL.tl l ++ (TL.tl y ++ TL.joinL (TL.tl y) ((m :: r).map TL.tl)) := hc
    rcases List.mem_append.mp hc with hc | hc
    · exact h l List.mem_cons_self c hc
    rcases List.mem_append.mp hc with hc | hc
    · exact hy c hc
    · refine join_signs (y := y) (ls := m :: r) (fun l hl => h l (List.mem_cons_of_mem _ hl)) hy c ?_
      rw [TL.join_eq, TL.tl_join]
      exact hc
theorem dg_signs {i : Int} (h : 0 ≤ i ∧ i ≤ 9) : ∀ c ∈ TL.tl (dg i), c < 1114112 := by
  intro c hc
  rw [tl_dg, List.mem_singleton] at hc
  omega
theorem callL_signs {c : Str × Int} (o : CallOk c) : ∀ x ∈ TL.tl (callL c), x < 1114112 := by
  intro x hx
  have hx : x ∈ TL.tl (c.1 ++ (" " : Str) ++ dg c.2) := hx
  simp only [TL.tl_append, tl_sp, List.mem_append, List.mem_singleton] at hx
  rcases hx with (hx | hx) | hx
  · have := o.1.2.2 x hx
    omega
  · omega
  · exact dg_signs ⟨o.2.1, by have := o.2.2; omega⟩ x hx
theorem itemL_signs {t : Itm} (o : ItemOk t) : ∀ x ∈ TL.tl (itemL t), x < 1114112 := by
  intro x hx
  cases t with
  | step i =>
    have hx : x ∈ TL.tl (("step " : Str) ++ dg i) := hx
    simp only [TL.tl_append, tl_step_, List.mem_append] at hx
    rcases hx with hx | hx
    · simp only [List.mem_cons, List.not_mem_nil, or_false] at hx
      omega
    · exact dg_signs ⟨o.1, by have := o.2; omega⟩ x hx
  | call i c =>
    have hx : x ∈ TL.tl (("call " : Str) ++ dg i ++ (" " : Str) ++ callL c) := hx
    simp only [TL.tl_append, tl_call_, tl_sp, List.mem_append, List.mem_singleton] at hx
    rcases hx with ((hx | hx) | hx) | hx
    · simp only [List.mem_cons, List.not_mem_nil, or_false] at hx
      omega
    · exact dg_signs ⟨o.1.1, by have := o.1.2; omega⟩ x hx
    · omega
    · exact callL_signs o.2 x hx
theorem wr_text {s : Int} {d : PyData} {t : Str} (h : wrR s d = .ok (.str t)) (few : fewOk d) : t.length ≤ 22000 ∧ PyData.strOk t = true := by
  have l1 : ("\n" : Str).length = 1 := by decide +kernel
  have l2 : (" " : Str).length = 1 := by decide +kernel
  unfold wrR at h
  by_cases h0 : s = 0
  · rw [if_pos h0] at h
    unfold rowR at h
    split at h
    · rename_i ds
      have fw := few ds rfl
      split at h
      · cases h
      · rename_i cs hc
        cases h
        have p := runL_inr hc
        have lp := Paired.length p
        have oc : ∀ l ∈ cs.map callL, ∃ c, CallOk c ∧ l = callL c := by
          intro l hl
          obtain ⟨c, hc, rfl⟩ := List.mem_map.mp hl
          obtain ⟨d, _, e⟩ := paired_mem p c hc
          exact ⟨c, (asCall_ok e).2, rfl⟩
        have j := join_len (y := ("\n" : Str)) (ls := cs.map callL) (k := 10) fun l hl => by
          obtain ⟨c, o, rfl⟩ := oc l hl
          exact (callL_line o).2.2
        rw [l1, List.length_map] at j
        refine ⟨by omega, strOk_of (join_signs (fun l hl => ?_) (fun c hc => by rw [tl_nl, List.mem_singleton] at hc; omega))⟩
        obtain ⟨c, o, rfl⟩ := oc l hl
        exact callL_signs o
    · cases h
  rw [if_neg h0] at h
  by_cases h1 : s = 1
  · rw [if_pos h1] at h
    unfold wvgR at h
    split at h
    · rename_i ds
      have fw := few ds rfl
      split at h
      · cases h
      · rename_i cs hc
        cases h
        have p := runL_inr hc
        have lp := Paired.length p
        have oc : ∀ l ∈ cs.map itemL, ∃ c, ItemOk c ∧ l = itemL c := by
          intro l hl
          obtain ⟨c, hc, rfl⟩ := List.mem_map.mp hl
          obtain ⟨d, _, e⟩ := paired_mem p c hc
          exact ⟨c, (asItem_ok e).2, rfl⟩
        have j := join_len (y := ("\n" : Str)) (ls := cs.map itemL) (k := 20) fun l hl => by
          obtain ⟨c, o, rfl⟩ := oc l hl
          exact (itemL_line o).2.2
        rw [l1, List.length_map] at j
        refine ⟨by omega, strOk_of (join_signs (fun l hl => ?_) (fun c hc => by rw [tl_nl, List.mem_singleton] at hc; omega))⟩
        obtain ⟨c, o, rfl⟩ := oc l hl
        exact itemL_signs o
    · cases h
  rw [if_neg h1] at h
  unfold stateR at h
  split at h
  · rename_i hs hv
    cases h
    obtain ⟨rfl, o⟩ := stateV_ok hv
    have l6 := o.2.1
    have j := join_len (y := (" " : Str)) (ls := hs.map dg) (k := 1) fun l hl => by
      obtain ⟨i, _, rfl⟩ := List.mem_map.mp hl
      exact Nat.le_refl 1
    rw [l2, List.length_map] at j
    refine ⟨by omega, strOk_of (join_signs (fun l hl => ?_) (fun c hc => by rw [tl_sp, List.mem_singleton] at hc; omega))⟩
    obtain ⟨i, hi, rfl⟩ := List.mem_map.mp hl
    have b := o.2.2 i hi
    exact dg_signs ⟨b.1, by omega⟩
  · cases h

end M

set_option Elab.async false
set_option linter.all false
set_option maxRecDepth 100000
set_option maxHeartbeats 2000000
namespace M
open PySem PySem.Spec PyProof.Rows L2

theorem resD_told {r : Rs} {x : Str} {e : PyData} (h : resD r = .tuple [.str x, e]) (o : RsOk r) : (x = "told" ↔ r = .ok e) := by
  cases o with
  | ok d =>
    cases h
    exact ⟨fun _ => rfl, fun _ => rfl⟩
  | row i =>
    cases h
    exact ⟨fun z => absurd z (by decide +kernel), fun z => by cases z⟩
  | wvg i =>
    cases h
    exact ⟨fun z => absurd z (by decide +kernel), fun z => by cases z⟩
  | txt i =>
    cases h
    exact ⟨fun z => absurd z (by decide +kernel), fun z => by cases z⟩
  | st =>
    cases h
    exact ⟨fun z => absurd z (by decide +kernel), fun z => by cases z⟩
theorem resD_two {r : Rs} (o : RsOk r) : ∃ x e, resD r = .tuple [.str x, e] := by
  cases o with
  | ok d => exact ⟨_, _, rfl⟩
  | row i => exact ⟨_, _, rfl⟩
  | wvg i => exact ⟨_, _, rfl⟩
  | txt i => exact ⟨_, _, rfl⟩
  | st => exact ⟨_, _, rfl⟩
namespace G
section
variable {P : Program} {w : World} {K : PySem.W.Frag} {mg : Str → Option Value} {base : Heap}
def spThH (K : PySem.W.Frag) : Sp := fun vs H Q _ => ∃ (s : Int) (v : V) (d : PyData) (n : Nat), vs = [.int s, v] ∧ (0 ≤ s ∧ s ≤ 2) ∧ Dp K H v d ∧ fit n d ∧ n ≤ 50 ∧ textOk d ∧ fewOk d ∧ ∀ H', Same H H' → Q (.bl true) H'
theorem ca_l_thing_holds (T : Txt w K mg) : Ca P w K mg base 16 "_law_thing_holds" (spThH K) := by
  refine ca_of (N := ["_law_sort", "_law_thing", "_law_given", "_law_due", "_law_told"]) (ps := ["_law_sort", "_law_thing"]) T.f_l_thing_holds T.g_law_thing_holds ⟨rfl, rfl, rfl, by decide +kernel, rfl, by decide +kernel, by decide +kernel⟩ (fun _ _ _ _ _ _ us hl => match us, hl with | [_, _], _ => rfl)
    (fun vs H Q E h => by obtain ⟨s, v, d, n, rfl, hs, hd, ft, hn, ht, few, q⟩ := h; rfl) (fun cdv A outer s H vs Q E hr h => ?_)
  have nd : (["_law_sort", "_law_thing", "_law_given", "_law_due", "_law_told"] : List Str).Nodup := by decide +kernel
  obtain ⟨s, v, d, n, rfl, hs, hd, ft, hn, ht, few, q⟩ := h
  refine ⟨_, (pss_cons (ps_set (i := 2) nd rfl (.inl rfl) (pv 1))
      (pss_cons (ps_if (pt_val (pe_is .list T.b_isinstance (pv 1) T.b_list boot_list)) (pss_one (ps_set (i := 2) nd rfl (.inl rfl) (pe_callTy call_list_of (by rfl) T.b_list boot_list (pa_cons (pv 1) pa_nil)))) pss_nil)
      (pss_cons (ps_set (i := 3) nd rfl (.inl rfl) (pe_ca (ca_l_written T) hr (pa_cons (pv 0) (pa_cons (pv 1) pa_nil))))
      (pss_cons (ps_set (i := 4) nd rfl (.inl rfl) (pe_ca (ca_l_asked T) hr (pa_cons pe_bl (pa_cons (pv 0) (pa_cons (pv 2) pa_nil)))))
      (pss_cons (ps_if (PW.pt (pw_and (pt_val (pe_is .list T.b_isinstance (pv 1) T.b_list boot_list)) (pw_and1 (pt_cmpR (op_neD hr.units) (pv 2) (pv 1) (nomark _))))) (pss_one (ps_ret pe_bl)) pss_nil)
      (pss_cons (ps_if (pt_not (pt_val (pe_ca (ca_l_same 8 T) hr (pa_cons (pv 4) (pa_cons (pv 3) pa_nil))))) (pss_one (ps_ret pe_bl)) pss_nil)
      (pss_one (ps_ret (pe_or (pe_cmpR op_ne (pe_ix ix_tup (pv 3) pe_int (fun _ _ => rfl)) pe_str (nomark _)) (pe_one (pe_ca (ca_l_same 8 T) hr (pa_cons (pe_ca (ca_l_asked T) hr (pa_cons pe_bl (pa_cons (pv 0) (pa_cons (pe_ix ix_tup (pv 3) pe_int (fun _ _ => rfl)) pa_nil)))) (pa_cons (pe_tup (pa_cons pe_str (pa_cons (pv 1) pa_nil))) pa_nil))))))))))))), ?_⟩
  have kd := dp_kd hd
  have sh := fit_shaped (by omega) ft
  have ev := (fit_lay ft).2.2
  refine ⟨_, rfl, _, rfl, _, _, rfl, kd, _, rfl, ?_⟩
  by_cases hl : (kdOf d).is .list = true
  case' pos =>
    obtain ⟨a, xs, ds, rfl, rfl, ha, hds⟩ : ∃ (a : Addr) (xs : List V) (ds : List PyData), v = .ref a ∧ d = .list ds ∧ SqL K H a xs ∧ DpAll K H xs ds := by
      cases hd with
      | lst h1 h2 => exact ⟨_, _, _, rfl, rfl, h1, h2⟩
      | _ => cases hl
    rw [hl]
    refine iteT ⟨_, rfl, _, _, rfl, .inl ha, fun l nl => ?_⟩
    have s1 : Same H (upd H l (.lst xs)) := same_new nl
    have dg : Dp K (upd H l (.lst xs)) (.ref l) (.list ds) := .lst (.of upd_same) (dps_same s1 hds)
    generalize upd H l (.lst xs) = H1 at s1 dg ⊢
    generalize V.ref l = g at dg ⊢
  case' neg =>
    rw [show (kdOf d).is .list = false by simpa using hl]
    refine iteF ?_
    have s1 : Same H H := Same.refl _
    have dg : Dp K H v d := hd
  all_goals
    refine ⟨_, rfl, _, rfl, s, _, _, n, rfl, hs, dp_same s1 hd, ft, fun v2 H2 s2 d2 => ?_⟩
    refine ⟨_, rfl, _, rfl, false, s, _, _, n, rfl, hs, dp_same s2 dg, ft, hn, ht, fun v3 H3 s3 d3 => ?_⟩
    have d3 : Dp K H3 v3 (resD (wrR s _)) := d3
    have hd3 := dp_same ((s1.trans s2).trans s3) hd
    have dg3 := dp_same (s2.trans s3) dg
    refine ⟨_, rfl, _, _, rfl, dp_kd hd3, _, rfl, ?_⟩
  case' pos =>
    refine iteT ⟨_, rfl, _, rfl, _, _, dg3, hd3, sh, sh, ?_⟩
    rw [ev]
    refine ⟨_, rfl, ?_⟩
    refine iteF ?_
  case' neg =>
    rw [show (kdOf d).is .list = false by simpa using hl]
    refine iteF ?_
  all_goals
    refine ⟨_, rfl, _, rfl, v3, v2, _, rfl, d3, dp_same s3 d2, due_wr s _, fun H4 s4 => ⟨_, rfl, iteF ?_⟩⟩
    have hd4 := dp_same s4 hd3
    have d4 := dp_same (s3.trans s4) d2
    have ss4 : Same H H4 := ((s1.trans s2).trans s3).trans s4
  case' pos =>
    have ro := wrR_ok s (.list ds)
  case' neg =>
    have ro := wrR_ok s d
  all_goals
    obtain ⟨x, e, er⟩ := resD_two ro
    rw [er] at d4
    obtain ⟨t, u, y, rfl, ht4, hu, hy⟩ := dp2 d4
    cases dp_str hu
    refine ⟨_, rfl, _, _, _, _, rfl, rfl, ht4, at0, rfl, _, rfl, ?_⟩
    by_cases hx : x = "told"
    case neg =>
      rw [decide_eq_false (show ¬ V.str x = V.str "told" from fun z => hx (V.str.inj z))]
      exact iteT (q H4 ss4)
    have hw := (resD_told er ro).mp hx
    obtain ⟨tx, rfl, rt⟩ := written_read hw
    have wt := wr_text hw few
    have wtl := wt.1
    rw [decide_eq_true (show V.str x = V.str "told" by rw [hx])]
    refine iteF ⟨_, rfl, _, rfl, _, _, _, _, rfl, rfl, ht4, at1, true, s, y, _, 0, rfl, hs, hy, ⟨by omega, wt.2⟩, by decide, ⟨by omega, wt.2⟩, fun v5 H5 s5 d5 => ?_⟩
    have d5 : Dp K H5 v5 (resD (rdR s (.str tx))) := d5
    have du := due_rd s (.str tx) ⟨by omega, wt.2⟩
    rw [rt] at d5 du
    exact ⟨_, rfl, (by show 2 ≤ sizeLine; decide), fun t2 nt2 => ⟨v5, .ref t2, _, rfl, dp_same (same_new nt2) d5, .tup (.of upd_same) (.cons (.str _) (.cons (dp_same (s5.trans (same_new nt2)) hd4) .nil)), du, fun H7 s7 => q H7 (((ss4.trans s5).trans (same_new nt2)).trans s7)⟩⟩
def spTxH (K : PySem.W.Frag) : Sp := fun vs H Q _ => ∃ (s : Int) (v : V) (d : PyData) (n : Nat), vs = [.int s, v] ∧ (0 ≤ s ∧ s ≤ 2) ∧ Dp K H v d ∧ fit n d ∧ n ≤ 50 ∧ textOk d ∧ ∀ H', Same H H' → Q (.bl true) H'
theorem ca_l_text_holds (T : Txt w K mg) : Ca P w K mg base 16 "_law_text_holds" (spTxH K) := by
  refine ca_of (N := ["_law_sort", "_law_text", "_law_due"]) (ps := ["_law_sort", "_law_text"]) T.f_l_text_holds T.g_law_text_holds ⟨rfl, rfl, rfl, by decide +kernel, rfl, by decide +kernel, by decide +kernel⟩ (fun _ _ _ _ _ _ us hl => match us, hl with | [_, _], _ => rfl)
    (fun vs H Q E h => by obtain ⟨s, v, d, n, rfl, hs, hd, ft, hn, ht, q⟩ := h; rfl) (fun cdv A outer s H vs Q E hr h => ?_)
  have nd : (["_law_sort", "_law_text", "_law_due"] : List Str).Nodup := by decide +kernel
  obtain ⟨s, v, d, n, rfl, hs, hd, ft, hn, ht, q⟩ := h
  refine ⟨_, (pss_cons (ps_set (i := 2) nd rfl (.inl rfl) (pe_ca (ca_l_read T) hr (pa_cons (pv 0) (pa_cons (pv 1) pa_nil))))
      (pss_cons (ps_if (pt_not (pt_val (pe_ca (ca_l_same 8 T) hr (pa_cons (pe_ca (ca_l_asked T) hr (pa_cons pe_bl (pa_cons (pv 0) (pa_cons (pv 1) pa_nil)))) (pa_cons (pv 2) pa_nil))))) (pss_one (ps_ret pe_bl)) pss_nil)
      (pss_one (ps_ret (pe_or (pe_cmpR op_ne (pe_ix ix_tup (pv 2) pe_int (fun _ _ => rfl)) pe_str (nomark _)) (pe_one (pe_ca (ca_l_same 8 T) hr (pa_cons (pe_ca (ca_l_asked T) hr (pa_cons pe_bl (pa_cons (pv 0) (pa_cons (pe_ix ix_tup (pv 2) pe_int (fun _ _ => rfl)) pa_nil)))) (pa_cons (pe_tup (pa_cons pe_str (pa_cons (pv 1) pa_nil))) pa_nil))))))))), ?_⟩
  refine ⟨_, rfl, _, rfl, s, v, d, rfl, hs, hd, ht, fun v2 H2 s2 d2 => ?_⟩
  refine ⟨_, rfl, _, rfl, true, s, v, d, n, rfl, hs, dp_same s2 hd, ft, hn, ht, fun v3 H3 s3 d3 => ?_⟩
  have d3 : Dp K H3 v3 (resD (rdR s d)) := d3
  refine ⟨_, rfl, v3, v2, _, rfl, d3, dp_same s3 d2, due_rd s d ht, fun H4 s4 => ⟨_, rfl, iteF ?_⟩⟩
  have ro := rdR_ok s d
  have ss4 := (s2.trans s3).trans s4
  have hd4 := dp_same ss4 hd
  have d4 := dp_same (s3.trans s4) d2
  obtain ⟨x, e, er⟩ := resD_two ro
  rw [er] at d4
  obtain ⟨t, u, y, rfl, ht4, hu, hy⟩ := dp2 d4
  cases dp_str hu
  refine ⟨_, rfl, _, _, _, _, rfl, rfl, ht4, at0, rfl, _, rfl, ?_⟩
  by_cases hx : x = "told"
  case neg =>
    rw [decide_eq_false (show ¬ V.str x = V.str "told" from fun z => hx (V.str.inj z))]
    exact iteT (q H4 ss4)
  have hw := (resD_told er ro).mp hx
  obtain ⟨tx, rfl⟩ : ∃ tx, d = .str tx := by
    cases d with
    | str tx => exact ⟨tx, rfl⟩
    | _ =>
      exfalso
      unfold rdR at hw
      split at hw
      · cases hw
      · split at hw
        · cases hw
        · cases hw
  have rw_ := read_written hw
  obtain ⟨f1, f2, f3, f4⟩ := read_fit hw ht.1
  rw [decide_eq_true (show V.str x = V.str "told" by rw [hx])]
  refine iteF ⟨_, rfl, _, rfl, _, _, _, _, rfl, rfl, ht4, at1, false, s, y, e, 4, rfl, hs, hy, f1, by decide, f3, fun v5 H5 s5 d5 => ?_⟩
  have d5 : Dp K H5 v5 (resD (wrR s e)) := d5
  have du := due_wr s e
  rw [rw_] at d5 du
  exact ⟨_, rfl, (by show 2 ≤ sizeLine; decide), fun t2 nt2 => ⟨v5, .ref t2, _, rfl, dp_same (same_new nt2) d5, .tup (.of upd_same) (.cons (.str _) (.cons (dp_same (s5.trans (same_new nt2)) hd4) .nil)), du, fun H7 s7 => q H7 (((ss4.trans s5).trans (same_new nt2)).trans s7)⟩⟩
end
end G

end M

set_option Elab.async false
set_option linter.all false
set_option maxRecDepth 100000
set_option maxHeartbeats 2000000
namespace M
open PySem PySem.Spec PyProof.Rows L2

theorem dps_takeW {K : PySem.W.Frag} {H : Hp} : ∀ {xs : List V} {ds : List PyData} (n : Nat), DpAll K H xs ds → DpAll K H (xs.take n) (ds.take n)
  | _, _, 0, _ => .nil
  | _, _, n + 1, .nil => .nil
  | _, _, n + 1, .cons h r => .cons h (dps_takeW n r)
theorem dps_dropW {K : PySem.W.Frag} {H : Hp} : ∀ {xs : List V} {ds : List PyData} (n : Nat), DpAll K H xs ds → DpAll K H (xs.drop n) (ds.drop n)
  | _, _, 0, h => h
  | _, _, n + 1, .nil => .nil
  | _, _, n + 1, .cons h r => dps_dropW n r
/-- a part of data -/
theorem cut_dps {K : PySem.W.Frag} {H : Hp} {xs : List V} {ds : List PyData} (lo hi : Option Int) (h : DpAll K H xs ds) : ∃ es, DpAll K H (cutV xs lo hi) es ∧ (∀ d ∈ es, d ∈ ds) ∧ es.length ≤ ds.length := by
  refine ⟨_, dps_takeW _ (dps_dropW _ h), fun d hd => List.mem_of_mem_drop (List.mem_of_mem_take hd), ?_⟩
  rw [List.length_take, List.length_drop]
  omega
section
variable {K : PySem.W.Frag} {H : Hp} {Q : VK} {a b : Addr} {xs ys : List V} {ds es : List PyData}
theorem slA_dp (lo hi : Option Int) (ha : SqT K H a xs) (hd : DpAll K H xs ds) (q : ∀ (r : Addr) (ys : List V) (es : List PyData) (H' : Hp), Same H H' → SqT K H' r ys → DpAll K H' ys es → (∀ d ∈ es, d ∈ ds) → es.length ≤ ds.length → Q (.ref r) H') : rSlA K (.ref a) lo hi H Q := by
  refine ⟨a, xs, rfl, ha, fun _ => q a xs ds H (Same.refl _) ha hd (fun d h => h) (Nat.le_refl _), fun _ p np => ?_⟩
  obtain ⟨es, h1, h2, h3⟩ := cut_dps lo hi hd
  exact q p _ es _ (same_new np) (.of upd_same) (dps_same (same_new np) h1) h2 h3
theorem catA_dp (ha : SqT K H a xs) (hx : DpAll K H xs ds) (hb : SqT K H b ys) (hy : DpAll K H ys es) (len : ds.length + es.length ≤ 100000) (q : ∀ (r : Addr) (zs : List V) (H' : Hp), Same H H' → SqT K H' r zs → DpAll K H' zs (ds ++ es) → Q (.ref r) H') : rCatA K (.ref a) (.ref b) H Q := by
  have l1 := dps_len hx
  have l2 := dps_len hy
  refine ⟨a, b, xs, ys, rfl, rfl, ha, hb, by rw [sizeLine_eq]; omega, fun e => ?_, fun _ e => ?_, fun _ _ p np => q p _ _ (same_new np) (.of upd_same) (dps_app (dps_same (same_new np) hx) (dps_same (same_new np) hy))⟩
  · subst e
    cases hx
    exact q b ys H (Same.refl _) hb hy
  · subst e
    cases hy
    refine q a xs H (Same.refl _) ha ?_
    rw [List.append_nil]
    exact hx
theorem slL_dp (lo hi : Option Int) (ha : SqL K H a xs) (hd : DpAll K H xs ds) (q : ∀ (r : Addr) (ys : List V) (es : List PyData) (H' : Hp), Same H H' → H' r = some (.lst ys) → DpAll K H' ys es → (∀ d ∈ es, d ∈ ds) → es.length ≤ ds.length → Q (.ref r) H') : rSlL K (.ref a) lo hi H Q := by
  refine ⟨a, xs, rfl, ha, fun p np => ?_⟩
  obtain ⟨es, h1, h2, h3⟩ := cut_dps lo hi hd
  exact q p _ es _ (same_new np) upd_same (dps_same (same_new np) h1) h2 h3
theorem catL_dp (ha : H a = some (.lst xs)) (hx : DpAll K H xs ds) (hb : H b = some (.lst ys)) (hy : DpAll K H ys es) (len : ds.length + es.length ≤ 100000) (q : ∀ (r : Addr) (zs : List V) (H' : Hp), H r = none → Same H H' → H' r = some (.lst zs) → DpAll K H' zs (ds ++ es) → Q (.ref r) H') : rCat (.ref a) (.ref b) H Q := by
  have l1 := dps_len hx
  have l2 := dps_len hy
  exact ⟨a, b, xs, ys, rfl, rfl, ha, hb, by rw [sizeLine_eq]; omega, fun p np => q p _ _ np (same_new np) upd_same (dps_app (dps_same (same_new np) hx) (dps_same (same_new np) hy))⟩
end
namespace G
section
variable {P : Program} {w : World} {K : PySem.W.Frag} {mg : Str → Option Value} {base : Heap}
def spSpoilt (K : PySem.W.Frag) : Sp := fun vs H Q _ => ∃ (v o : V) (at_ s : Int) (ds : List PyData) (od : PyData), vs = [v, .int at_, o, .int s] ∧ (0 ≤ s ∧ s ≤ 2) ∧ 0 ≤ at_ ∧ Dp K H v (if s = 2 then .tuple ds else .list ds) ∧ (s = 2 → 1 ≤ ds.length) ∧ ds.length ≤ 20 ∧ Dp K H o od ∧
  ∀ (v' : V) (d' : PyData) (es : List PyData) (H' : Hp), Same H H' → Dp K H' v' d' → (d' = .tuple es ∨ d' = .list es) → (∀ d ∈ es, d ∈ ds ∨ d = od) → es.length ≤ 50 → (∀ a, H a ≠ none → v' = .ref a → d' = .tuple es) → Q v' H'
theorem ca_l_spoilt (T : Txt w K mg) : Ca P w K mg base 1 "_law_spoilt" (spSpoilt K) := by
  refine ca_of (N := ["_law_thing", "_law_at", "_law_odd_here", "_law_sort"]) (ps := ["_law_thing", "_law_at", "_law_odd_here", "_law_sort"]) T.f_l_spoilt T.g_law_spoilt ⟨rfl, rfl, rfl, by decide +kernel, rfl, by decide +kernel, by decide +kernel⟩ (fun _ _ _ _ _ _ us hl => match us, hl with | [_, _, _, _], _ => rfl)
    (fun vs H Q E h => by obtain ⟨v, o, at_, s, ds, od, rfl, hs, hat, hd, h1, h20, ho, q⟩ := h; rfl) (fun cdv A outer s H vs Q E hr h => ?_)
  have nd : (["_law_thing", "_law_at", "_law_odd_here", "_law_sort"] : List Str).Nodup := by decide +kernel
  obtain ⟨v, o, at_, s, ds, od, rfl, hs, hat, hd, h1, h20, ho, q⟩ := h
  refine ⟨_, (pss_cons (ps_if (pt_cmpR op_eq (pv 3) pe_int (nomark _)) (pss_cons (ps_set (i := 1) nd rfl (.inl rfl) (pe_op op_mod (pe_callTy call_int1 (by rfl) T.b_int boot_int (pa_cons (pv 1) pa_nil)) (pe_callB call_len_seq (by rfl) T.b_len PySem.boot_len (pa_cons (pv 0) pa_nil))))
      (pss_one (ps_ret (pe_op op_catA (pe_op op_catA (pe_slice sl_tupA (pv 0) po_none (po_some (pv 1))) (pe_tup (pa_cons (pv 2) pa_nil))) (pe_slice sl_tupA (pv 0) (po_some (pe_op op_add (pv 1) pe_int)) po_none))))) pss_nil)
      (pss_cons (ps_if (pt_cmpR op_eq (pe_callB call_len_seq (by rfl) T.b_len PySem.boot_len (pa_cons (pv 0) pa_nil)) pe_int (nomark _)) (pss_one (ps_ret (pe_lst (pa_cons (pv 2) pa_nil)))) pss_nil)
      (pss_cons (ps_set (i := 1) nd rfl (.inl rfl) (pe_op op_mod (pe_callTy call_int1 (by rfl) T.b_int boot_int (pa_cons (pv 1) pa_nil)) (pe_callB call_len_seq (by rfl) T.b_len PySem.boot_len (pa_cons (pv 0) pa_nil))))
      (pss_one (ps_ret (pe_op op_cat (pe_op op_cat (pe_slice sl_list (pv 0) po_none (po_some (pv 1))) (pe_lst (pa_cons (pv 2) pa_nil))) (pe_slice sl_list (pv 0) (po_some (pe_op op_add (pv 1) pe_int)) po_none))))))), ?_⟩
  by_cases c2 : s = 2
  · subst c2
    rw [if_pos rfl] at hd
    obtain ⟨a, xs, rfl, ha, hxs⟩ := dp_tup hd
    have lx := dps_len hxs
    have pos := h1 rfl
    refine ⟨_, rfl, rfl, _, rfl, iteT ?_⟩
    refine ⟨_, rfl, .inl ⟨_, rfl, _, rfl, _, _, rfl, .inr ha, _, _, rfl, rfl, (by show (0 : Int) < (xs.length : Nat); omega), ?_⟩⟩
    refine ⟨_, rfl, _, rfl, _, rfl, slA_dp _ _ ha hxs fun r1 y1 e1 H1 s1 t1 d1 m1 l1 => ?_⟩
    refine ⟨_, rfl, (by show 1 ≤ sizeLine; decide), fun t nt => ?_⟩
    have w1 := same_new (o := .tup [o]) nt
    have ho1 : DpAll K (upd H1 t (.tup [o])) [o] [od] := .cons (dp_same (s1.trans w1) ho) .nil
    have ht1 : SqT K (upd H1 t (.tup [o])) t [o] := .of upd_same
    generalize upd H1 t (.tup [o]) = G1 at w1 ho1 ht1 ⊢
    refine catA_dp (same_t w1 t1) (dps_same w1 d1) ht1 ho1 (by simp only [List.length_singleton]; omega) fun r2 y2 H2 s2 t2 d2 => ?_
    have s02 := (s1.trans w1).trans s2
    refine ⟨_, rfl, _, rfl, _, _, rfl, rfl, _, rfl, ?_⟩
    show tNoPart _ _ _
    unfold tNoPart
    refine slA_dp _ _ (same_t s02 ha) (dps_same s02 hxs) fun r3 y3 e3 H3 s3 t3 d3 m3 l3 => ?_
    refine catA_dp (same_t s3 t2) (dps_same s3 d2) t3 d3 (by simp only [List.length_append, List.length_singleton]; omega) fun r4 y4 H4 s4 t4 d4 => ?_
    refine q _ _ _ H4 ((s02.trans s3).trans s4) (.tup t4 d4) (.inl rfl) (fun d hd => ?_) (by simp only [List.length_append, List.length_singleton]; omega) (fun _ _ _ => rfl)
    rcases List.mem_append.mp hd with hd | hd
    · rcases List.mem_append.mp hd with hd | hd
      · exact .inl (m1 d hd)
      · exact .inr (List.mem_singleton.mp hd)
    · exact .inl (m3 d hd)
  · rw [if_neg c2] at hd
    obtain ⟨a, xs, rfl, ha, hxs⟩ : ∃ a xs, v = .ref a ∧ SqL K H a xs ∧ DpAll K H xs ds := by
      cases hd with | lst h1 h2 => exact ⟨_, _, rfl, h1, h2⟩
    have lx := dps_len hxs
    refine ⟨_, rfl, rfl, _, rfl, ?_⟩
    rw [decide_eq_false (show ¬ V.int s = V.int 2 from fun z => c2 (V.int.inj z))]
    refine iteF ⟨_, rfl, _, _, rfl, .inl ha, rfl, _, rfl, ?_⟩
    by_cases c0 : xs.length = 0
    · rw [decide_eq_true (show V.int (xs.length : Nat) = V.int 0 by rw [c0]; rfl)]
      refine iteT ⟨_, rfl, (by show 1 ≤ sizeLine; decide), fun t nt => ?_⟩
      exact q _ _ [od] _ (same_new nt) (.lst (.of upd_same) (.cons (dp_same (same_new nt) ho) .nil)) (.inr rfl) (fun d hd => .inr (List.mem_singleton.mp hd)) (by show 1 ≤ 50; decide) (fun a ha e => absurd nt (by rw [V.ref.inj e]; exact ha))
    rw [decide_eq_false (show ¬ V.int (xs.length : Nat) = V.int 0 from fun z => c0 (by have := V.int.inj z; omega))]
    refine iteF ⟨_, rfl, .inl ⟨_, rfl, _, rfl, _, _, rfl, .inl ha, _, _, rfl, rfl, (by show (0 : Int) < (xs.length : Nat); omega), ?_⟩⟩
    refine ⟨_, rfl, _, rfl, _, rfl, slL_dp _ _ ha hxs fun r1 y1 e1 H1 s1 t1 d1 m1 l1 => ?_⟩
    refine ⟨_, rfl, (by show 1 ≤ sizeLine; decide), fun t nt => ?_⟩
    have w1 := same_new (o := .lst [o]) nt
    have ho1 : DpAll K (upd H1 t (.lst [o])) [o] [od] := .cons (dp_same (s1.trans w1) ho) .nil
    have ht1 : upd H1 t (.lst [o]) t = some (.lst [o]) := upd_same
    generalize upd H1 t (.lst [o]) = G1 at w1 ho1 ht1 ⊢
    refine catL_dp (w1 _ _ t1) (dps_same w1 d1) ht1 ho1 (by simp only [List.length_singleton]; omega) fun r2 y2 H2 n2 s2 t2 d2 => ?_
    have s02 := (s1.trans w1).trans s2
    refine ⟨_, rfl, _, rfl, _, _, rfl, rfl, _, rfl, ?_⟩
    show tNoPart _ _ _
    unfold tNoPart
    refine slL_dp _ _ (s02.seq ha) (dps_same s02 hxs) fun r3 y3 e3 H3 s3 t3 d3 m3 l3 => ?_
    refine catL_dp (s3 _ _ t2) (dps_same s3 d2) t3 d3 (by simp only [List.length_append, List.length_singleton]; omega) fun r4 y4 H4 n4 s4 t4 d4 => ?_
    refine q _ _ _ H4 ((s02.trans s3).trans s4) (.lst (.of t4) d4) (.inr rfl) (fun d hd => ?_) (by simp only [List.length_append, List.length_singleton]; omega) (fun a ha e => absurd (none_of (s02.trans s3) n4) (by rw [V.ref.inj e]; exact ha))
    rcases List.mem_append.mp hd with hd | hd
    · rcases List.mem_append.mp hd with hd | hd
      · exact .inl (m1 d hd)
      · exact .inr (List.mem_singleton.mp hd)
    · exact .inl (m3 d hd)
end
end G

end M

set_option Elab.async false
set_option linter.all false
set_option maxRecDepth 100000
set_option maxHeartbeats 2000000
namespace M
open PySem PySem.Spec PyProof.Rows L2

theorem pairs_map {α β : Type} {f : β → α} {g : α → Option β} : ∀ {xs : List β}, (∀ x ∈ xs, g (f x) = some x) → Paired (fun a b => g a = some b) (xs.map f) xs
  | [], _ => .nil
  | _ :: _, h => .cons (h _ List.mem_cons_self) (pairs_map fun x hx => h x (List.mem_cons_of_mem _ hx))
theorem good_row {cs : List (Str × Int)} (h : ∀ c ∈ cs, CallOk c) : ∃ t, wrR 0 (.list (cs.map callD)) = .ok (.str t) := by
  refine ⟨Txt.join ("\n" : Str) (cs.map callL), ?_⟩
  unfold wrR
  rw [if_pos rfl]
  show (match runL asCall (cs.map callD) with | .inl i => Rs.bad "NoRow" "index" (i : Nat) | .inr cs => .ok (.str (Txt.join ("\n" : Str) (cs.map callL)))) = _
  rw [runL_all (pairs_map fun c hc => asCall_of (h c hc))]
theorem good_wvg {cs : List Itm} (h : ∀ c ∈ cs, ItemOk c) : ∃ t, wrR 1 (.list (cs.map itemD)) = .ok (.str t) := by
  refine ⟨Txt.join ("\n" : Str) (cs.map itemL), ?_⟩
  unfold wrR
  rw [if_neg (by decide), if_pos rfl]
  show (match runL asItem (cs.map itemD) with | .inl i => Rs.bad "NoWeaving" "index" (i : Nat) | .inr cs => .ok (.str (Txt.join ("\n" : Str) (cs.map itemL)))) = _
  rw [runL_all (pairs_map fun c hc => asItem_of (h c hc))]
theorem good_state {hs : List Int} (h : StOk hs) : ∃ t, wrR 2 (.tuple (hs.map PyData.int)) = .ok (.str t) := by
  refine ⟨Txt.join (" " : Str) (hs.map dg), ?_⟩
  unfold wrR
  rw [if_neg (by decide), if_neg (by decide)]
  unfold stateR
  rw [stateV_of h]
def few20 (d : PyData) : Prop := ∀ ds, d = .list ds → ds.length ≤ 20
theorem wr_few {s : Int} {d : PyData} {t : Str} (h : wrR s d = .ok (.str t)) (few : few20 d) : t.length ≤ 420 ∧ PyData.strOk t = true := by
  have l1 : ("\n" : Str).length = 1 := by decide +kernel
  have l2 : (" " : Str).length = 1 := by decide +kernel
  unfold wrR at h
  by_cases h0 : s = 0
  · rw [if_pos h0] at h
    unfold rowR at h
    split at h
    · rename_i ds
      have fw := few ds rfl
      split at h
      · cases h
      · rename_i cs hc
        cases h
        have p := runL_inr hc
        have lp := Paired.length p
        have oc : ∀ l ∈ cs.map callL, ∃ c, CallOk c ∧ l = callL c := by
          intro l hl
          obtain ⟨c, hc, rfl⟩ := List.mem_map.mp hl
          obtain ⟨d, _, e⟩ := paired_mem p c hc
          exact ⟨c, (asCall_ok e).2, rfl⟩
        have j := join_len (y := ("\n" : Str)) (ls := cs.map callL) (k := 10) fun l hl => by
          obtain ⟨c, o, rfl⟩ := oc l hl
          exact (callL_line o).2.2
        rw [l1, List.length_map] at j
        refine ⟨by omega, strOk_of (join_signs (fun l hl => ?_) (fun c hc => by rw [tl_nl, List.mem_singleton] at hc; omega))⟩
        obtain ⟨c, o, rfl⟩ := oc l hl
        exact callL_signs o
    · cases h
  rw [if_neg h0] at h
  by_cases h1 : s = 1
  · rw [if_pos h1] at h
    unfold wvgR at h
    split at h
    · rename_i ds
      have fw := few ds rfl
      split at h
      · cases h
      · rename_i cs hc
        cases h
        have p := runL_inr hc
        have lp := Paired.length p
        have oc : ∀ l ∈ cs.map itemL, ∃ c, ItemOk c ∧ l = itemL c := by
          intro l hl
          obtain ⟨c, hc, rfl⟩ := List.mem_map.mp hl
          obtain ⟨d, _, e⟩ := paired_mem p c hc
          exact ⟨c, (asItem_ok e).2, rfl⟩
        have j := join_len (y := ("\n" : Str)) (ls := cs.map itemL) (k := 20) fun l hl => by
          obtain ⟨c, o, rfl⟩ := oc l hl
          exact (itemL_line o).2.2
        rw [l1, List.length_map] at j
        refine ⟨by omega, strOk_of (join_signs (fun l hl => ?_) (fun c hc => by rw [tl_nl, List.mem_singleton] at hc; omega))⟩
        obtain ⟨c, o, rfl⟩ := oc l hl
        exact itemL_signs o
    · cases h
  rw [if_neg h1] at h
  unfold stateR at h
  split at h
  · rename_i hs hv
    cases h
    obtain ⟨rfl, o⟩ := stateV_ok hv
    have l6 := o.2.1
    have j := join_len (y := (" " : Str)) (ls := hs.map dg) (k := 1) fun l hl => by
      obtain ⟨i, _, rfl⟩ := List.mem_map.mp hl
      exact Nat.le_refl 1
    rw [l2, List.length_map] at j
    refine ⟨by omega, strOk_of (join_signs (fun l hl => ?_) (fun c hc => by rw [tl_sp, List.mem_singleton] at hc; omega))⟩
    obtain ⟨i, hi, rfl⟩ := List.mem_map.mp hl
    have b := o.2.2 i hi
    exact dg_signs ⟨b.1, by omega⟩
  · cases h
/-- a short text -/
def ShT (n : Nat) (s : Str) : Prop := s.length ≤ n ∧ PyData.strOk s = true
def shT (n : Nat) (s : Str) : Bool := decide (s.length ≤ n) && PyData.strOk s
theorem shT_ok {n : Nat} {s : Str} (h : shT n s = true) : ShT n s := ⟨of_decide_eq_true (He.ba h).1, (He.ba h).2⟩
theorem sign_ok {c : Nat} (h : c < 1114112) : ShT 1 ⟨#[c]⟩ := ⟨Nat.le_refl 1, strOk_of fun x hx => by
  rw [show TL.tl ⟨#[c]⟩ = [c] from rfl, List.mem_singleton] at hx
  omega⟩
theorem at_sign {z : Str} (n : Nat) (hn : z.length = n) (hz : z.cps.toList.all (· < 128) = true) {i : Int} (hi : 0 ≤ i ∧ i < n) : ∃ c, atI z.cps.toList i = some c ∧ ShT 1 ⟨#[c]⟩ := by
  have l : i.toNat < z.cps.toList.length := by
    rw [Array.length_toList]
    have : z.cps.size = n := hn
    omega
  have e := atI_nat (List.getElem?_eq_getElem l)
  rw [Int.toNat_of_nonneg hi.1] at e
  refine ⟨_, e, sign_ok ?_⟩
  have := of_decide_eq_true (List.all_eq_true.mp hz _ (List.getElem_mem l))
  omega
namespace G
section
variable {P : Program} {w : World} {K : PySem.W.Frag} {mg : Str → Option Value} {base : Heap}
def spSign : Sp := fun vs H Q _ => ∃ (p : Addr), vs = [.ref p] ∧ PoolAt H p ∧ ∀ (s : Str) (H' : Hp), But p H H' → PoolAt H' p → ShT 1 s → Q (.str s) H'
theorem ca_l_sign (T : Txt w K mg) : Ca P w K mg base 2 "_law_sign" (spSign) := by
  refine ca_of (N := ["_law_pool_here", "_law_signs"]) (ps := ["_law_pool_here"]) T.f_l_sign T.g_law_sign ⟨rfl, rfl, rfl, by decide +kernel, rfl, by decide +kernel, by decide +kernel⟩ (fun _ _ _ _ _ _ us hl => match us, hl with | [_], _ => rfl)
    (fun vs H Q E h => by obtain ⟨p, rfl, hp, q⟩ := h; rfl) (fun cdv A outer s H vs Q E hr h => ?_)
  have nd : (["_law_pool_here", "_law_signs"] : List Str).Nodup := by decide +kernel
  obtain ⟨p, rfl, hp, q⟩ := h
  refine ⟨_, (pss_cons (ps_if (pt_cmpR op_gt (pe_ca (ca_l_draw T) hr (pa_cons (pv 0) (pa_cons pe_int pa_nil))) pe_int (nomark _)) (pss_one (ps_ret (pe_ix ix_str pe_str (pe_ca (ca_l_draw T) hr (pa_cons (pv 0) (pa_cons pe_int pa_nil))) (fun _ _ => rfl)))) pss_nil)
      (pss_cons (ps_set (i := 1) nd rfl (.inl rfl) pe_str)
      (pss_cons (ps_set (i := 1) nd rfl (.inl rfl) (pe_op op_add_str (pv 1) pe_str))
      (pss_one (ps_ret (pe_ix ix_str (pv 1) (pe_ca (ca_l_draw T) hr (pa_cons (pv 0) (pa_cons pe_int pa_nil))) (fun _ _ => rfl))))))), ?_⟩
  refine ⟨_, rfl, p, 3, rfl, hp, by omega, fun c H1 b1 p1 hc => ⟨_, _, rfl, rfl, _, rfl, ?_⟩⟩
  by_cases c0 : 0 < c
  · rw [decide_eq_true c0]
    refine iteT ⟨_, rfl, p, 19, rfl, p1, by omega, fun i H2 b2 p2 hi => ?_⟩
    obtain ⟨x, hx, sx⟩ := at_sign (z := "abz01289 \n- stepcal") 19 (by decide +kernel) (by decide +kernel) hi
    exact ⟨_, i, x, rfl, rfl, by decide +kernel, hx, q _ _ (b1.trans b2) p2 sx⟩
  · rw [decide_eq_false c0]
    refine iteF ⟨_, rfl, _, _, rfl, rfl, by decide +kernel, _, rfl, _, rfl, p, 95, rfl, p1, by omega, fun i H2 b2 p2 hi => ?_⟩
    obtain ⟨x, hx, sx⟩ := at_sign (z := (" !\"#$&'()*+,-./0123456789:;<=>?@ABCDEFGHIJKLMNOPQRSTUVWXYZ[\\]^_`" : Str) ++ ("abcdefghijklmnopqrstuvwxyz{|}~\n" : Str)) 95 (by decide +kernel) (by decide +kernel) hi
    exact ⟨_, i, x, rfl, rfl, by decide +kernel, hx, q _ _ (b1.trans b2) p2 sx⟩
end
end G
def txB (d : PyData) : Bool := match d with | .str t => shT 20 t | _ => false
theorem txB_ok {d : PyData} (h : txB d = true) : ∃ t, d = .str t ∧ ShT 20 t := by
  cases d with
  | str t => exact ⟨t, rfl, shT_ok h⟩
  | _ => cases h
theorem pool_nel {G : Hp} {p l : Addr} {ys : List V} (h : PoolAt G p) (a : G l = some (.lst ys)) (n : ys.length ≠ 3) : l ≠ p := by
  rintro rfl
  obtain ⟨g, sd, m, e, _⟩ := h
  rw [a] at e
  cases e
  exact n rfl
namespace G
section
variable {P : Program} {w : World} {K : PySem.W.Frag} {mg : Str → Option Value} {base : Heap}
def spOddLn : Sp := fun vs H Q _ => ∃ (p : Addr), vs = [.ref p] ∧ PoolAt H p ∧ ∀ (s : Str) (H' : Hp), But p H H' → PoolAt H' p → ShT 20 s → Q (.str s) H'
theorem ca_l_odd_line (T : Txt w K mg) : Ca P w K mg base 2 "_law_odd_line" (spOddLn) := by
  refine ca_of (N := ["_law_pool_here", "_law_odds"]) (ps := ["_law_pool_here"]) T.f_l_odd_line T.g_law_odd_line ⟨rfl, rfl, rfl, by decide +kernel, rfl, by decide +kernel, by decide +kernel⟩ (fun _ _ _ _ _ _ us hl => match us, hl with | [_], _ => rfl)
    (fun vs H Q E h => by obtain ⟨p, rfl, hp, q⟩ := h; rfl) (fun cdv A outer s H vs Q E hr h => ?_)
  have nd : (["_law_pool_here", "_law_odds"] : List Str).Nodup := by decide +kernel
  obtain ⟨p, rfl, hp, q⟩ := h
  refine ⟨_, (pss_cons (ps_set (i := 1) nd rfl (.inl rfl) (pe_lst (wdK K H (wd_cons wd_str (wd_cons wd_str (wd_cons wd_str (wd_cons wd_str (wd_cons wd_str (wd_cons wd_str (wd_cons wd_str (wd_cons wd_str (wd_cons wd_str (wd_cons wd_str (wd_cons wd_str (wd_cons wd_str (wd_cons wd_str (wd_cons wd_str wd_nil)))))))))))))))))
      (pss_cons (ps_set (i := 1) nd rfl (.inl rfl) (pe_op op_cat (pv 1) (pe_lst (wdK K H (wd_cons wd_str (wd_cons wd_str (wd_cons wd_str (wd_cons wd_str (wd_cons wd_str (wd_cons wd_str (wd_cons wd_str (wd_cons wd_str (wd_cons wd_str wd_nil)))))))))))))
      (pss_cons (ps_set (i := 1) nd rfl (.inl rfl) (pe_op op_cat (pv 1) (pe_lst (wdK K H (wd_cons wd_str (wd_cons wd_str (wd_cons wd_str (wd_cons wd_str (wd_cons wd_str (wd_cons wd_str (wd_cons wd_str (wd_cons wd_str wd_nil))))))))))))
      (pss_one (ps_ret (pe_ix ix_list (pv 1) (pe_ca (ca_l_draw T) hr (pa_cons (pv 0) (pa_cons (pe_callB call_len_seq (by rfl) T.b_len PySem.boot_len (pa_cons (pv 1) pa_nil)) pa_nil))) (fun _ _ => rfl))))))), ?_⟩
  refine ⟨Same.refl _, fun vs1 H1 s1 d1 => ?_⟩
  refine ⟨by rw [dps_len d1, sizeLine_eq]; exact Nat.le_of_ble_eq_true rfl, fun l1 n1 => ⟨_, rfl, ?_⟩⟩
  have t1 := same_new (o := .lst vs1) n1
  refine cat_step (s1.trans t1) upd_same (dps_same (less_same t1) d1) (Nat.le_of_ble_eq_true rfl) fun l2 y2 G2 r2 a2 d2 => ⟨_, rfl, ?_⟩
  refine cat_step r2 a2 d2 (Nat.le_of_ble_eq_true rfl) fun l3 y3 G3 r3 a3 d3 => ⟨_, rfl, ?_⟩
  have p3 := hp.same r3
  have ln : y3.length = 31 := by rw [dps_len d3]; rfl
  have ne := pool_nel p3 a3 (by omega)
  refine ⟨_, rfl, _, rfl, _, _, rfl, .inl (.of a3), p, (y3.length : Nat), rfl, p3, by omega, fun i H4 b4 p4 hi => ?_⟩
  have a4 := b4 _ _ ne a3
  have li : i.toNat < y3.length := by omega
  obtain ⟨d, ed, hd⟩ := dps_get d3 (List.getElem?_eq_getElem li)
  have B : txB d = true := by
    refine List.all_eq_true.mp ?_ d (List.mem_of_getElem? ed)
    decide +kernel
  obtain ⟨t, rfl, ht⟩ := txB_ok B
  have hv := atI_nat (List.getElem?_eq_getElem li)
  rw [Int.toNat_of_nonneg hi.1, dp_str hd] at hv
  exact ⟨l3, y3, i, _, rfl, rfl, .of a4, hv, q t H4 ((same_but r3).trans b4) p4 ht⟩
end
end G

end M

set_option Elab.async false
set_option linter.all false
set_option maxRecDepth 100000
set_option maxHeartbeats 2000000
namespace M
open PySem PySem.Spec PyProof.Rows L2

theorem ok_signs {s : Str} (o : PyData.strOk s = true) : ∀ c ∈ TL.tl s, c < 1114112 := by
  intro c z
  unfold PyData.strOk at o
  rw [Array.all_eq_true'] at o
  exact of_decide_eq_true (o c (by simpa [TL.tl] using z))
theorem ok_cut {z : Str} (lo hi : Option Int) (o : PyData.strOk z = true) : PyData.strOk (cutS z lo hi) = true := strOk_of fun c hc => by
  refine ok_signs o c ?_
  have hc : c ∈ (z.cps.toList.drop (HT.sIx z.length 0 lo)).take (HT.sIx z.length z.length hi - HT.sIx z.length 0 lo) := by
    simpa [TL.tl, cutS] using hc
  exact List.mem_of_mem_drop (List.mem_of_mem_take hc)
theorem sh_cut {n : Nat} {z : Str} (lo hi : Option Int) (h : ShT n z) : ShT n (cutS z lo hi) := ⟨Nat.le_trans (cutS_length z lo hi) h.1, ok_cut lo hi h.2⟩
theorem sh_app {n m : Nat} {x y : Str} (h : ShT n x) (k : ShT m y) : ShT (n + m) (x ++ y) := ⟨by rw [len_app]; have := h.1; have := k.1; omega, strOk_of fun c hc => by
  rw [TL.tl_append, List.mem_append] at hc
  rcases hc with hc | hc
  · exact ok_signs h.2 c hc
  · exact ok_signs k.2 c hc⟩
theorem sh_up {n m : Nat} {x : Str} (h : ShT n x) (l : n ≤ m) : ShT m x := ⟨Nat.le_trans h.1 l, h.2⟩
/-- the weight of lines -/
def wei (ls : List Str) : Nat := (ls.map fun l => l.length + 1).sum
theorem wei_app (a b : List Str) : wei (a ++ b) = wei a + wei b := by
  unfold wei
  rw [List.map_append, List.sum_append]
theorem wei_sub {a b : List Str} (h : a.Sublist b) : wei a ≤ wei b := by
  induction h with
  | slnil => exact Nat.le_refl _
  | cons x _ ih =>
    unfold wei at ih ⊢
    rw [List.map_cons, List.sum_cons]
    omega
  | cons_cons x _ ih =>
    unfold wei at ih ⊢
    rw [List.map_cons, List.sum_cons, List.map_cons, List.sum_cons]
    omega
theorem wei_sum (ls : List Str) : (ls.map (·.length)).sum + ls.length = wei ls := by
  induction ls with
  | nil => rfl
  | cons x r ih =>
    unfold wei at ih ⊢
    rw [List.map_cons, List.sum_cons, List.map_cons, List.sum_cons, List.length_cons]
    omega
theorem join_wei (ls : List Str) (n : ls ≠ []) : (Txt.join ("\n" : Str) ls).length + 1 = wei ls := by
  rw [tl_len, TL.join_eq, TL.tl_join]
  induction ls with
  | nil => exact absurd rfl n
  | cons l r ih =>
    cases r with
    | nil =>
      show (TL.tl l).length + 1 = l.length + 1 + 0
      rw [tl_len]
    | cons m t =>
      have i := ih (by simp)
      show (TL.tl l ++ (TL.tl ("\n" : Str) ++ TL.joinL (TL.tl ("\n" : Str)) ((m :: t).map TL.tl))).length + 1 = l.length + 1 + wei (m :: t)
      rw [List.length_append, List.length_append, ← i, tl_len l, tl_nl]
      simp only [List.length_singleton]
      omega
theorem cut_strs (ws : List Str) (lo hi : Option Int) : ∃ us : List Str, cutV (ws.map V.str) lo hi = us.map V.str ∧ us.Sublist ws := by
  refine ⟨(ws.drop (HT.sIx (ws.map V.str).length 0 lo)).take (HT.sIx (ws.map V.str).length (ws.map V.str).length hi - HT.sIx (ws.map V.str).length 0 lo), ?_, (List.take_sublist _ _).trans (List.drop_sublist _ _)⟩
  unfold cutV
  rw [List.map_take, List.map_drop]
theorem sh_join {ls : List Str} {n : Nat} (l : wei ls ≤ n) (o : ∀ x ∈ ls, PyData.strOk x = true) : ShT n (Txt.join ("\n" : Str) ls) := by
  refine ⟨?_, strOk_of (join_signs (fun l hl => ok_signs (o l hl)) (fun c hc => by rw [tl_nl, List.mem_singleton] at hc; omega))⟩
  by_cases e : ls = []
  · subst e
    exact Nat.zero_le _
  · have := join_wei ls e
    omega
section
variable {K : PySem.W.Frag} {H : Hp} {Q : VK} {a b : Addr} {xs ys : List Str}
theorem slL_st (lo hi : Option Int) (ha : SqL K H a (xs.map V.str)) (q : ∀ (r : Addr) (us : List Str) (H' : Hp), Same H H' → H' r = some (.lst (us.map V.str)) → us.Sublist xs → Q (.ref r) H') : rSlL K (.ref a) lo hi H Q := by
  refine ⟨a, _, rfl, ha, fun p np => ?_⟩
  obtain ⟨us, e, s⟩ := cut_strs xs lo hi
  rw [e]
  exact q p us _ (same_new np) upd_same s
theorem catL_st (ha : H a = some (.lst (xs.map V.str))) (hb : H b = some (.lst (ys.map V.str))) (len : xs.length + ys.length ≤ 100000) (q : ∀ (r : Addr) (H' : Hp), Same H H' → H' r = some (.lst ((xs ++ ys).map V.str)) → Q (.ref r) H') : rCat (.ref a) (.ref b) H Q := by
  refine ⟨a, b, _, _, rfl, rfl, ha, hb, by rw [List.length_map, List.length_map, sizeLine_eq]; omega, fun p np => ?_⟩
  rw [← List.map_append]
  exact q p _ (same_new np) upd_same
end
namespace G
section
variable {P : Program} {w : World} {K : PySem.W.Frag} {mg : Str → Option Value} {base : Heap}
def spChanged : Sp := fun vs H Q _ => ∃ (t : Str) (k at_ : Int) (p : Addr), vs = [.str t, .int k, .int at_, .ref p] ∧ 0 ≤ at_ ∧ PoolAt H p ∧ ShT 5000 t ∧ ∀ (s : Str) (H' : Hp), But p H H' → PoolAt H' p → ShT (2 * t.length + 40) s → Q (.str s) H'
theorem ca_l_changed (T : Txt w K mg) : Ca P w K mg base 3 "_law_changed" (spChanged) := by
  refine ca_of (N := ["_law_text", "_law_kind", "_law_at", "_law_pool_here", "_law_sign_here", "_law_line", "_law_lines", "_law_row"]) (ps := ["_law_text", "_law_kind", "_law_at", "_law_pool_here"]) T.f_l_changed T.g_law_changed ⟨rfl, rfl, rfl, by decide +kernel, rfl, by decide +kernel, by decide +kernel⟩ (fun _ _ _ _ _ _ us hl => match us, hl with | [_, _, _, _], _ => rfl)
    (fun vs H Q E h => by obtain ⟨t, k, at_, p, rfl, hat, hp, ht, q⟩ := h; rfl) (fun cdv A outer s H vs Q E hr h => ?_)
  have nd : (["_law_text", "_law_kind", "_law_at", "_law_pool_here", "_law_sign_here", "_law_line", "_law_lines", "_law_row"] : List Str).Nodup := by decide +kernel
  obtain ⟨t, k, at_, p, rfl, hat, hp, ht, q⟩ := h
  refine ⟨_, (pss_cons (ps_set (i := 4) nd rfl (.inl rfl) (pe_ca (ca_l_sign T) hr (pa_cons (pv 3) pa_nil)))
      (pss_cons (ps_set (i := 5) nd rfl (.inl rfl) (pe_ca (ca_l_odd_line T) hr (pa_cons (pv 3) pa_nil)))
      (pss_cons (ps_if (pt_cmpR op_eq (pe_callB call_len (by rfl) T.b_len PySem.boot_len (pa_cons (pv 0) pa_nil)) pe_int (nomark _)) (pss_one (ps_ret (pe_ix ix_list (pe_lst (pa_cons (pv 5) (pa_cons (pv 4) pa_nil))) (pe_ca (ca_l_draw T) hr (pa_cons (pv 3) (pa_cons pe_int pa_nil))) (fun _ _ => rfl)))) pss_nil)
      (pss_cons (ps_set (i := 6) nd rfl (.inl rfl) (pe_split (pv 0) pe_str))
      (pss_cons (ps_set (i := 7) nd rfl (.inl rfl) (pe_op op_mod (pe_callTy call_int1 (by rfl) T.b_int boot_int (pa_cons (pv 2) pa_nil)) (pe_callB call_len_seq (by rfl) T.b_len PySem.boot_len (pa_cons (pv 6) pa_nil))))
      (pss_cons (ps_set (i := 2) nd rfl (.inl rfl) (pe_op op_mod (pe_callTy call_int1 (by rfl) T.b_int boot_int (pa_cons (pv 2) pa_nil)) (pe_callB call_len (by rfl) T.b_len PySem.boot_len (pa_cons (pv 0) pa_nil))))
      (pss_cons (ps_if (pt_cmpR op_eq (pv 1) pe_int (nomark _)) (pss_one (ps_ret (pe_op op_add_str (pe_slice sl_str (pv 0) po_none (po_some (pv 2))) (pe_slice sl_str (pv 0) (po_some (pe_op op_add (pv 2) pe_int)) po_none)))) pss_nil)
      (pss_cons (ps_if (pt_cmpR op_eq (pv 1) pe_int (nomark _)) (pss_one (ps_ret (pe_op op_add_str (pe_op op_add_str (pe_slice sl_str (pv 0) po_none (po_some (pv 2))) (pv 4)) (pe_slice sl_str (pv 0) (po_some (pv 2)) po_none)))) pss_nil)
      (pss_cons (ps_if (pt_cmpR op_eq (pv 1) pe_int (nomark _)) (pss_one (ps_ret (pe_op op_add_str (pe_op op_add_str (pe_slice sl_str (pv 0) po_none (po_some (pv 2))) (pv 4)) (pe_slice sl_str (pv 0) (po_some (pe_op op_add (pv 2) pe_int)) po_none)))) pss_nil)
      (pss_cons (ps_if (pt_cmpR op_eq (pv 1) pe_int (nomark _)) (pss_one (ps_ret (pe_op op_add_str (pe_slice sl_str (pv 0) po_none (po_some (pe_op op_add (pv 2) pe_int))) (pe_slice sl_str (pv 0) (po_some (pv 2)) po_none)))) pss_nil)
      (pss_cons (ps_if (pt_cmpR op_eq (pv 1) pe_int (nomark _)) (pss_one (ps_ret (pe_slice sl_str (pv 0) po_none (po_some (pv 2))))) pss_nil)
      (pss_cons (ps_if (pt_cmpR op_eq (pv 1) pe_int (nomark _)) (pss_one (ps_ret (pe_join pe_str (pe_op op_cat (pe_slice sl_list (pv 6) po_none (po_some (pe_op op_add (pv 7) pe_int))) (pe_slice sl_list (pv 6) (po_some (pv 7)) po_none))))) pss_nil)
      (pss_cons (ps_if (pt_cmpR op_eq (pv 1) pe_int (nomark _)) (pss_one (ps_ret (pe_op op_add_str (pv 0) (pv 4)))) pss_nil)
      (pss_one (ps_ret (pe_join pe_str (pe_op op_cat (pe_op op_cat (pe_slice sl_list (pv 6) po_none (po_some (pv 7))) (pe_lst (pa_cons (pv 5) pa_nil))) (pe_slice sl_list (pv 6) (po_some (pe_op op_add (pv 7) pe_int)) po_none)))))))))))))))))), ?_⟩
  refine ⟨_, rfl, p, rfl, hp, fun s H1 b1 p1 hs => ⟨_, rfl, p, rfl, p1, fun l H2 b2 p2 hl => ?_⟩⟩
  have b02 := b1.trans b2
  have tt : ShT t.length t := ⟨Nat.le_refl _, ht.2⟩
  have hz : t.length ≤ sizeLine := by have := ht.1; rw [sizeLine_eq]; omega
  refine ⟨_, rfl, _, _, rfl, ⟨hz, rfl⟩, rfl, _, rfl, ?_⟩
  by_cases t0 : t.length = 0
  · rw [decide_eq_true (show V.int (t.length : Nat) = V.int 0 by rw [t0]; rfl)]
    refine iteT ⟨_, rfl, _, rfl, (by show 2 ≤ sizeLine; decide), fun L nL => ?_⟩
    have pn := p2.same (same_new (o := .lst [.str l, .str s]) nL)
    refine ⟨_, rfl, p, 2, rfl, pn, by omega, fun i H3 b3 p3 hi => ?_⟩
    have hL := b3 _ _ (pool_nl p2 nL) (upd_same (H := H2) (o := .lst [.str l, .str s]))
    have b13 := (b02.trans (same_but (same_new nL))).trans b3
    have i01 : i = 0 ∨ i = 1 := by omega
    rcases i01 with rfl | rfl
    · exact ⟨L, _, _, _, rfl, rfl, .of hL, at0, q l H3 b13 p3 (sh_up hl (by omega))⟩
    · exact ⟨L, _, _, _, rfl, rfl, .of hL, at1, q s H3 b13 p3 (sh_up hs (by omega))⟩
  rw [decide_eq_false (show ¬ V.int (t.length : Nat) = V.int 0 from fun z => t0 (by have := V.int.inj z; omega))]
  refine iteF ⟨_, rfl, ⟨_, rfl⟩, _, _, rfl, rfl, (by decide +kernel), by have := ht.1; rw [sizeLine_eq]; omega, fun L nL => ?_⟩
  have many := split_many (x := t) tl_nl nl_all
  have wk := (words_ok tl_nl nl_all ⟨by have := ht.1; omega, ht.2⟩).2
  have we := join_wei (Txt.split t ("\n" : Str)) (fun z => by rw [z] at many; exact absurd many.1 (by decide))
  rw [split_back tl_nl nl_all] at we
  generalize Txt.split t ("\n" : Str) = ws at many wk we ⊢
  have s3 := same_new (o := .lst (ws.map V.str)) nL
  have hL : upd H2 L (.lst (ws.map V.str)) L = some (.lst (ws.map V.str)) := upd_same
  generalize upd H2 L (.lst (ws.map V.str)) = H3 at s3 hL ⊢
  have b03 := b02.trans (same_but s3)
  have p3 := p2.same s3
  have l5 := ht.1
  have lw : ws.length ≤ 5001 := by omega
  have okw : ∀ x ∈ ws, PyData.strOk x = true := fun x hx => (wk x hx).2
  refine ⟨_, rfl, .inl ⟨_, rfl, _, rfl, _, _, rfl, .inl (.of hL), _, _, rfl, rfl, (by show (0 : Int) < ((ws.map V.str).length : Nat); rw [List.length_map]; omega), ?_⟩⟩
  refine ⟨_, rfl, .inl ⟨_, rfl, _, rfl, _, _, rfl, ⟨hz, rfl⟩, _, _, rfl, rfl, (by show (0 : Int) < (t.length : Nat); omega), ?_⟩⟩
  have L1s : ∀ lo hi, (cutS t lo hi).length + s.length ≤ sizeLine := fun lo hi => by have := cutS_length t lo hi; have := hs.1; rw [sizeLine_eq]; omega
  have L2s : ∀ lo hi lo' hi', (cutS t lo hi).length + (cutS t lo' hi').length ≤ sizeLine := fun lo hi lo' hi' => by have := cutS_length t lo hi; have := cutS_length t lo' hi'; rw [sizeLine_eq]; omega
  have L3s : ∀ lo hi lo' hi', (cutS t lo hi ++ s).length + (cutS t lo' hi').length ≤ sizeLine := fun lo hi lo' hi' => by have := cutS_length t lo hi; have := cutS_length t lo' hi'; have := hs.1; rw [sizeLine_eq, len_app]; omega
  have sb : ∀ {G4 : Hp}, Same H3 G4 → But p H G4 ∧ PoolAt G4 p := fun g => ⟨b03.trans (same_but g), p3.same g⟩
  have jn : ∀ (ls : List Str), wei ls ≤ 2 * t.length + 40 → (ls.map (·.length)).sum + ls.length * ("\n" : Str).length ≤ 16777216 := fun ls h => by
    have := wei_sum ls
    rw [show ("\n" : Str).length = 1 from by decide +kernel]
    omega
  have wl : ∀ us : List Str, us.length ≤ wei us := fun us => by have := wei_sum us; omega
  refine ⟨_, rfl, rfl, _, rfl, ?_⟩
  by_cases k0 : k = 0
  · rw [decide_eq_true (show V.int k = V.int 0 from congrArg V.int k0)]
    exact iteT ⟨_, rfl, _, rfl, _, rfl, _, rfl, hz, _, rfl, _, rfl, _, _, rfl, rfl, _, rfl, _, rfl, hz, _, _, rfl, rfl, L2s _ _ _ _, q _ _ b03 p3 (sh_up (sh_app (sh_cut _ _ tt) (sh_cut _ _ tt)) (by omega))⟩
  rw [decide_eq_false (show ¬ V.int k = V.int 0 from fun z => k0 (V.int.inj z))]
  refine iteF ⟨_, rfl, rfl, _, rfl, ?_⟩
  by_cases k1 : k = 1
  · rw [decide_eq_true (show V.int k = V.int 1 from congrArg V.int k1)]
    exact iteT ⟨_, rfl, _, rfl, _, rfl, _, rfl, hz, _, rfl, _, _, rfl, rfl, L1s _ _, _, rfl, _, rfl, _, rfl, _, rfl, hz, _, _, rfl, rfl, L3s _ _ _ _, q _ _ b03 p3 (sh_up (sh_app (sh_app (sh_cut _ _ tt) hs) (sh_cut _ _ tt)) (by omega))⟩
  rw [decide_eq_false (show ¬ V.int k = V.int 1 from fun z => k1 (V.int.inj z))]
  refine iteF ⟨_, rfl, rfl, _, rfl, ?_⟩
  by_cases k2 : k = 2
  · rw [decide_eq_true (show V.int k = V.int 2 from congrArg V.int k2)]
    exact iteT ⟨_, rfl, _, rfl, _, rfl, _, rfl, hz, _, rfl, _, _, rfl, rfl, L1s _ _, _, rfl, _, rfl, _, _, rfl, rfl, _, rfl, _, rfl, hz, _, _, rfl, rfl, L3s _ _ _ _, q _ _ b03 p3 (sh_up (sh_app (sh_app (sh_cut _ _ tt) hs) (sh_cut _ _ tt)) (by omega))⟩
  rw [decide_eq_false (show ¬ V.int k = V.int 2 from fun z => k2 (V.int.inj z))]
  refine iteF ⟨_, rfl, rfl, _, rfl, ?_⟩
  by_cases k3 : k = 3
  · rw [decide_eq_true (show V.int k = V.int 3 from congrArg V.int k3)]
    exact iteT ⟨_, rfl, _, rfl, _, _, rfl, rfl, _, rfl, _, rfl, hz, _, rfl, _, rfl, _, rfl, _, rfl, hz, _, _, rfl, rfl, L2s _ _ _ _, q _ _ b03 p3 (sh_up (sh_app (sh_cut _ _ tt) (sh_cut _ _ tt)) (by omega))⟩
  rw [decide_eq_false (show ¬ V.int k = V.int 3 from fun z => k3 (V.int.inj z))]
  refine iteF ⟨_, rfl, rfl, _, rfl, ?_⟩
  by_cases k4 : k = 4
  · rw [decide_eq_true (show V.int k = V.int 4 from congrArg V.int k4)]
    exact iteT ⟨_, rfl, _, rfl, _, rfl, _, rfl, hz, q _ _ b03 p3 (sh_up (sh_cut _ _ tt) (by omega))⟩
  rw [decide_eq_false (show ¬ V.int k = V.int 4 from fun z => k4 (V.int.inj z))]
  refine iteF ⟨_, rfl, rfl, _, rfl, ?_⟩
  by_cases k5 : k = 5
  · rw [decide_eq_true (show V.int k = V.int 5 from congrArg V.int k5)]
    refine iteT ⟨⟨_, rfl⟩, _, rfl, _, rfl, _, _, rfl, rfl, _, rfl, slL_st _ _ (.of hL) fun r1 us1 G1 s1 t1 m1 => ?_⟩
    have w1 := wei_sub m1
    refine ⟨_, rfl, _, rfl, _, rfl, ?_⟩
    show tNoPart _ _ _
    unfold tNoPart
    refine slL_st _ _ (.of (s1 _ _ hL)) fun r2 us2 G2 s2 t2 m2 => ?_
    have w2 := wei_sub m2
    have n1 := wl us1
    have n2 := wl us2
    refine catL_st (s2 _ _ t1) t2 (by omega) fun r3 G3 s4 t3 => ?_
    have wa := wei_app us1 us2
    obtain ⟨bb, pp⟩ := sb ((s1.trans s2).trans s4)
    exact ⟨_, r3, us1 ++ us2, rfl, rfl, .inl (.of t3), jn _ (by omega), q _ _ bb pp (sh_join (by omega) fun x hx => by
      rcases List.mem_append.mp hx with hx | hx
      · exact okw x (m1.subset hx)
      · exact okw x (m2.subset hx))⟩
  rw [decide_eq_false (show ¬ V.int k = V.int 5 from fun z => k5 (V.int.inj z))]
  refine iteF ⟨_, rfl, rfl, _, rfl, ?_⟩
  by_cases k6 : k = 6
  · rw [decide_eq_true (show V.int k = V.int 6 from congrArg V.int k6)]
    exact iteT ⟨_, rfl, _, rfl, _, _, rfl, rfl, (by have := hs.1; rw [sizeLine_eq]; omega), q _ _ b03 p3 (sh_up (sh_app tt hs) (by omega))⟩
  rw [decide_eq_false (show ¬ V.int k = V.int 6 from fun z => k6 (V.int.inj z))]
  refine iteF ⟨⟨_, rfl⟩, _, rfl, _, rfl, _, rfl, slL_st _ _ (.of hL) fun r1 us1 G1 s1 t1 m1 => ?_⟩
  have w1 := wei_sub m1
  have n1 := wl us1
  refine ⟨_, rfl, (by show 1 ≤ sizeLine; decide), fun u nu => ?_⟩
  have s5 := same_new (o := .lst [V.str l]) nu
  refine catL_st (ys := [l]) (s5 _ _ t1) upd_same (by simp only [List.length_singleton]; omega) fun r2 G2 s2 t2 => ?_
  refine ⟨_, rfl, _, rfl, _, _, rfl, rfl, _, rfl, ?_⟩
  show tNoPart _ _ _
  unfold tNoPart
  refine slL_st _ _ (.of (s2 _ _ (s5 _ _ (s1 _ _ hL)))) fun r3 us3 G3 s3' t3 m3 => ?_
  have w3 := wei_sub m3
  have n3 := wl us3
  refine catL_st (s3' _ _ t2) t3 (by simp only [List.length_append, List.length_singleton]; omega) fun r4 G4 s4 t4 => ?_
  have wa := wei_app (us1 ++ [l]) us3
  rw [wei_app us1 [l], show wei [l] = l.length + 1 from rfl] at wa
  have hl1 := hl.1
  obtain ⟨bb, pp⟩ := sb ((((s1.trans s5).trans s2).trans s3').trans s4)
  exact ⟨_, r4, us1 ++ [l] ++ us3, rfl, rfl, .inl (.of t4), jn _ (by omega), q _ _ bb pp (sh_join (by omega) fun x hx => by
    rcases List.mem_append.mp hx with hx | hx
    · rcases List.mem_append.mp hx with hx | hx
      · exact okw x (m1.subset hx)
      · rw [List.mem_singleton.mp hx]
        exact hl.2
    · exact okw x (m3.subset hx))⟩
end
end G

end M

set_option Elab.async false
set_option linter.all false
set_option maxRecDepth 100000
set_option maxHeartbeats 2000000
namespace M
open PySem PySem.Spec PyProof.Rows L2

section
variable {K : PySem.W.Frag} {H H' : Hp} {p : Addr}
theorem sqL_n3 (hp : PoolAt H p) (s : But p H H') {a : Addr} {xs : List V} (n : xs.length ≠ 3) (h : SqL K H a xs) : SqL K H' a xs := by
  rcases h with (h | ⟨o, h⟩) | h
  · exact .inl (.inl (s _ _ (pool_nel hp h n) h))
  · exact .inl (.inr ⟨o, s _ _ (fun e => hp.ch.2 _ _ (e ▸ h)) h⟩)
  · exact .inr h
mutual
theorem dp_n3 (hp : PoolAt H p) (s : But p H H') : ∀ {n : Nat} {v : V} {d : PyData}, Dp K H v d → no3 n d = true → Dp K H' v d
  | _, _, _, .non, _ => .non
  | _, _, _, .bl b, _ => .bl b
  | _, _, _, .int i, _ => .int i
  | _, _, _, .str x, _ => .str x
  | 0, _, _, .lst _ _, k => nomatch k
  | 0, _, _, .tup _ _, k => nomatch k
  | n + 1, _, _, .lst h r, k => .lst (sqL_n3 hp s (by rw [dps_len r]; simpa using (He.ba k).1) h) (dps_n3 hp s r fun d hd => List.all_eq_true.mp (He.ba k).2 d hd)
  | n + 1, _, _, .tup h r, k => .tup (sqT_but hp.ch s h) (dps_n3 hp s r fun d hd => List.all_eq_true.mp k d hd)
theorem dps_n3 (hp : PoolAt H p) (s : But p H H') : ∀ {n : Nat} {vs : List V} {ds : List PyData}, DpAll K H vs ds → (∀ d ∈ ds, no3 n d = true) → DpAll K H' vs ds
  | _, _, _, .nil, _ => .nil
  | _, _, _, .cons h r, k => .cons (dp_n3 hp s h (k _ List.mem_cons_self)) (dps_n3 hp s r fun d hd => k d (List.mem_cons_of_mem _ hd))
end
end
theorem no3_call (c : Str × Int) : no3 5 (callD c) = true := rfl
theorem no3_item (t : Itm) : no3 5 (itemD t) = true := by
  cases t with
  | step h => rfl
  | call h c => rfl
/-- what an odd thing keeps -/
def OddOk (d : PyData) : Prop := fit 3 d ∧ textOk d ∧ fewOk d ∧ no3 5 d = true
theorem oddOk_call {c : Str × Int} (h : CallOk c) : OddOk (callD c) := ⟨fit_call h, trivial, (fun _ e => by cases e), no3_call c⟩
theorem oddOk_item {t : Itm} (h : ItemOk t) : OddOk (itemD t) := ⟨fit_item h, by cases t <;> trivial, (fun _ e => by cases t <;> cases e), no3_item t⟩
theorem oddOk_int (i : Int) : OddOk (.int i) := ⟨trivial, trivial, (fun _ e => by cases e), rfl⟩

end M

set_option Elab.async false
set_option linter.all false
set_option maxRecDepth 100000
set_option maxHeartbeats 2000000
namespace M
open PySem PySem.Spec PyProof.Rows L2

section
variable {K : PySem.W.Frag} {J J' : Hp} {p : Addr} {v : V} {d : PyData} {ds : List PyData}
theorem sqL_ne {a : Addr} {xs : List V} (s : But p J J') (ne : a ≠ p) (h : SqL K J a xs) : SqL K J' a xs := by
  rcases h with (h | ⟨o, h⟩) | h
  · exact .inl (.inl (s _ _ ne h))
  · exact .inl (.inr ⟨o, s _ _ ne h⟩)
  · exact .inr h
theorem thg_but (hp : PoolAt J p) (s : But p J J') (n3 : ∀ x ∈ ds, no3 5 x = true) (ne : ∀ es, d = .list es → v ≠ .ref p) (h : Dp K J v d) (e : d = .tuple ds ∨ d = .list ds) : Dp K J' v d := by
  rcases e with rfl | rfl
  · cases h with
    | tup h r => exact .tup (sqT_but hp.ch s h) (dps_n3 hp s r n3)
  · cases h with
    | lst h r => exact .lst (sqL_ne s (fun e => ne _ rfl (by rw [e])) h) (dps_n3 hp s r n3)
end
/-- a thing that may be asked -/
def AskOk (d : PyData) : Prop := fit 4 d ∧ textOk d ∧ fewOk d
theorem ask_of {d : PyData} {es : List PyData} (e : d = .tuple es ∨ d = .list es) (l : es.length ≤ 50) (o : ∀ x ∈ es, OddOk x) : AskOk d := by
  rcases e with rfl | rfl
  · exact ⟨⟨by omega, fun x h => (o x h).1⟩, trivial, fun _ e => by cases e⟩
  · exact ⟨⟨by omega, fun x h => (o x h).1⟩, trivial, fun _ e => by cases e; omega⟩
theorem but_none {p b : Addr} {J J' : Hp} (s : But p J J') (h : J' p ≠ none) (e : J' b = none) : J b = none := by
  cases z : J b with
  | none => rfl
  | some o =>
    by_cases c : b = p
    · subst c
      exact absurd e h
    · rw [s _ _ c z] at e
      cases e
theorem some_ne {H : Hp} {a : Addr} {o : HO} (h : H a = some o) : H a ≠ none := fun e => by rw [h] at e; cases e
theorem pool_some {H : Hp} {p : Addr} (h : PoolAt H p) : H p ≠ none := by
  obtain ⟨l, e⟩ := h.at
  exact some_ne e
def thD (s : Int) (ds : List PyData) : PyData := if s = 2 then .tuple ds else .list ds
section
variable {P : Program} {w : World} {K : PySem.W.Frag} {mg : Str → Option Value} {base : Heap}
theorem three {H J : Hp} {p R G st : Addr} {xs ys : List V} {cs : List (Str × Int)} {ts : List Itm} {hs : List Int} (hp : PoolAt H p) (bj : But p H J)
    (hR : H R = some (.lst xs)) (hxs : DpAll K H xs (cs.map callD)) (hcs : ∀ c ∈ cs, CallOk c) (lc : cs.length ≤ 12) (nR : R ≠ p)
    (hG : H G = some (.lst ys)) (hys : DpAll K H ys (ts.map itemD)) (hts : ∀ c ∈ ts, ItemOk c) (lt : ts.length ≤ 12) (nG : G ≠ p)
    (hst : H st = some (.tup (hs.map V.int))) (ok : StOk hs) (i : Nat) (hi : i < 3) :
    ∃ (v : V) (ds : List PyData) (t : Str), atI [V.ref R, V.ref G, V.ref st] ((0 : Int) + (i : Nat)) = some v ∧ Dp K J v (thD ((0 : Int) + (i : Nat)) ds) ∧ ((0 : Int) + (i : Nat) = 2 → 1 ≤ ds.length) ∧ ds.length ≤ 12 ∧ (∀ d ∈ ds, OddOk d) ∧
      (thD ((0 : Int) + (i : Nat)) ds = .tuple ds ∨ thD ((0 : Int) + (i : Nat)) ds = .list ds) ∧ (∀ es, thD ((0 : Int) + (i : Nat)) ds = .list es → v ≠ .ref p) ∧ wrR ((0 : Int) + (i : Nat)) (thD ((0 : Int) + (i : Nat)) ds) = .ok (.str t) ∧ ShT 420 t := by
  have e : i = 0 ∨ i = 1 ∨ i = 2 := by omega
  rcases e with rfl | rfl | rfl
  · have o : ∀ d ∈ cs.map callD, OddOk d := fun d h => by
      obtain ⟨c, hc, rfl⟩ := List.mem_map.mp h
      exact oddOk_call (hcs c hc)
    obtain ⟨t, ht⟩ := good_row hcs
    have ne : ∀ es, PyData.list (cs.map callD) = .list es → V.ref R ≠ .ref p := fun _ _ e => nR (V.ref.inj e)
    exact ⟨.ref R, cs.map callD, t, rfl, thg_but hp bj (fun d h => (o d h).2.2.2) ne (.lst (.of hR) hxs) (.inr rfl), (fun e => absurd e (by decide)), (by rw [List.length_map]; exact lc), o, .inr rfl, ne, ht, wr_few ht fun ds e => by cases e; rw [List.length_map]; omega⟩
  · have o : ∀ d ∈ ts.map itemD, OddOk d := fun d h => by
      obtain ⟨c, hc, rfl⟩ := List.mem_map.mp h
      exact oddOk_item (hts c hc)
    obtain ⟨t, ht⟩ := good_wvg hts
    have ne : ∀ es, PyData.list (ts.map itemD) = .list es → V.ref G ≠ .ref p := fun _ _ e => nG (V.ref.inj e)
    exact ⟨.ref G, ts.map itemD, t, rfl, thg_but hp bj (fun d h => (o d h).2.2.2) ne (.lst (.of hG) hys) (.inr rfl), (fun e => absurd e (by decide)), (by rw [List.length_map]; exact lt), o, .inr rfl, ne, ht, wr_few ht fun ds e => by cases e; rw [List.length_map]; omega⟩
  · have o : ∀ d ∈ hs.map PyData.int, OddOk d := fun d h => by
      obtain ⟨c, _, rfl⟩ := List.mem_map.mp h
      exact oddOk_int c
    obtain ⟨t, ht⟩ := good_state ok
    have ne : ∀ es, PyData.tuple (hs.map PyData.int) = .list es → V.ref st ≠ .ref p := fun _ e => by cases e
    have dh : Dp K H (.ref st) (.tuple (hs.map PyData.int)) := .tup (.of hst) (by
      clear ok hst o ht ne
      induction hs with
      | nil => exact .nil
      | cons h r ih => exact .cons (.int h) ih)
    have l1 := ok.1
    have l2 := ok.2.1
    exact ⟨.ref st, hs.map PyData.int, t, rfl, thg_but hp bj (fun d h => (o d h).2.2.2) ne dh (.inl rfl), (fun _ => by rw [List.length_map]; exact l1), (by rw [List.length_map]; omega), o, .inl rfl, ne, ht, wr_few ht fun ds e => by cases e⟩
end

end M

set_option Elab.async false
set_option linter.all false
set_option maxRecDepth 100000
set_option maxHeartbeats 2000000
namespace M
open PySem PySem.Spec PyProof.Rows L2

theorem dps_intsV {K : PySem.W.Frag} {H : Hp} : ∀ {hs : List Int}, DpAll K H (hs.map V.int) (hs.map PyData.int)
  | [] => .nil
  | _ :: _ => .cons (.int _) dps_intsV
section
variable {P : Program} {w : World} {K : PySem.W.Frag} {mg : Str → Option Value} {base : Heap}
open G
def spLaw (K : PySem.W.Frag) : Sp := fun vs H Q _ => ∃ (a : Addr) (ns : List Int), vs = [.ref a] ∧ SqL K H a (ns.map V.int) ∧ ns.length ≤ 63 ∧ ∀ H', Q (.bl true) H'
theorem ok_law {fd : FuncData} (T : Txt w K mg) (F : FunD K "law" "law" (defArgs s_law) (defBody s_law) (defScope s_law) [] [] (He.fAd K ("law", none)) fd) : FnOk P w K mg base CX0 17 (He.fAd K ("law", none)) fd ["_law_script"] (spLaw K) := by
  refine fn_d (N := ["_law_script", "_law_pool_here", "_law_spoils", "_law_turn", "_law_odds", "_law_other", "_law_changes", "_law_kinds", "_law_places", "_law_calls", "_law_items", "_law_row", "_law_weaving", "_law_state", "_law_things", "_law_sort", "_law_thing", "_law_text"]) (ps := ["_law_script"]) F ⟨rfl, rfl, rfl, by decide +kernel, rfl, by decide +kernel, by decide +kernel⟩
    (fun vs H Q E h => by obtain ⟨a, ns, rfl, ha, hl, q⟩ := h; rfl) (fun cdv A outer s H vs Q E hr h => ?_)
  have nd : (["_law_script", "_law_pool_here", "_law_spoils", "_law_turn", "_law_odds", "_law_other", "_law_changes", "_law_kinds", "_law_places", "_law_calls", "_law_items", "_law_row", "_law_weaving", "_law_state", "_law_things", "_law_sort", "_law_thing", "_law_text"] : List Str).Nodup := by decide +kernel
  obtain ⟨a, ns, rfl, ha, hl, q⟩ := h
  refine ⟨_, (pss_cons (ps_set (i := 1) nd rfl (.inr rfl) (pe_ca (ca_l_pool T) hr (pa_cons (pv 0) (pa_cons pe_int pa_nil))))
      (pss_cons (ps_set (i := 2) nd rfl (.inl rfl) (pe_ca (ca_l_draw T) hr (pa_cons (pv 1) (pa_cons pe_int pa_nil))))
      (pss_cons (ps_setLc (i := 4) (own := [("_law_turn", 3)]) (tt := tYes) rfl nd rfl rfl (by rfl) (pi_range1 rfl T.b_range (pa_cons pe_int pa_nil)) (blkOk_by (N := ["_law_script", "_law_pool_here", "_law_spoils", "_law_turn", "_law_odds", "_law_other", "_law_changes", "_law_kinds", "_law_places", "_law_calls", "_law_items", "_law_row", "_law_weaving", "_law_state", "_law_things", "_law_sort", "_law_thing", "_law_text"]) (sc := defScope s_law) (by decide +kernel)) (fun _ _ _ _ _ => pg_name (i := 3) nd rfl (.inl rfl)) (fun _ _ _ _ _ => pts_nil) (fun _ _ _ _ _ => pe_ca (ca_l_odd T) hr (pa_cons (pe_ca (ca_l_draw T) hr (pa_cons (pv 1) (pa_cons pe_int pa_nil))) pa_nil)))
      (pss_cons (ps_set (i := 5) nd rfl (.inl rfl) (pe_ca (ca_l_odd T) hr (pa_cons (pe_ca (ca_l_draw T) hr (pa_cons (pv 1) (pa_cons pe_int pa_nil))) pa_nil)))
      (pss_cons (ps_set (i := 6) nd rfl (.inl rfl) (pe_ca (ca_l_draw T) hr (pa_cons (pv 1) (pa_cons pe_int pa_nil))))
      (pss_cons (ps_set (i := 7) nd rfl (.inl rfl) (pe_lst (pa_cons (pe_ca (ca_l_draw T) hr (pa_cons (pv 1) (pa_cons pe_int pa_nil))) (pa_cons (pe_ca (ca_l_draw T) hr (pa_cons (pv 1) (pa_cons pe_int pa_nil))) pa_nil))))
      (pss_cons (ps_set (i := 8) nd rfl (.inl rfl) (pe_lst (pa_cons (pe_ca (ca_l_draw T) hr (pa_cons (pv 1) (pa_cons pe_int pa_nil))) (pa_cons (pe_ca (ca_l_draw T) hr (pa_cons (pv 1) (pa_cons pe_int pa_nil))) pa_nil))))
      (pss_cons (ps_set (i := 9) nd rfl (.inr rfl) (pe_ca (ca_l_pool T) hr (pa_cons (pv 0) (pa_cons pe_int pa_nil))))
      (pss_cons (ps_set (i := 10) nd rfl (.inr rfl) (pe_ca (ca_l_pool T) hr (pa_cons (pv 0) (pa_cons pe_int pa_nil))))
      (pss_cons (ps_setLc (i := 11) (own := [("_law_turn", 3)]) (tt := tYes) rfl nd rfl rfl (by rfl) (pi_range1 rfl T.b_range (pa_cons (pe_ca (ca_l_draw T) hr (pa_cons (pv 9) (pa_cons pe_int pa_nil))) pa_nil)) (blkOk_by (N := ["_law_script", "_law_pool_here", "_law_spoils", "_law_turn", "_law_odds", "_law_other", "_law_changes", "_law_kinds", "_law_places", "_law_calls", "_law_items", "_law_row", "_law_weaving", "_law_state", "_law_things", "_law_sort", "_law_thing", "_law_text"]) (sc := defScope s_law) (by decide +kernel)) (fun _ _ _ _ _ => pg_name (i := 3) nd rfl (.inl rfl)) (fun _ _ _ _ _ => pts_nil) (fun _ _ _ _ _ => pe_ca (ca_l_call T) hr (pa_cons (pv 9) pa_nil)))
      (pss_cons (ps_setLc (i := 12) (own := [("_law_turn", 3)]) (tt := tYes) rfl nd rfl rfl (by rfl) (pi_range1 rfl T.b_range (pa_cons (pe_ca (ca_l_draw T) hr (pa_cons (pv 10) (pa_cons pe_int pa_nil))) pa_nil)) (blkOk_by (N := ["_law_script", "_law_pool_here", "_law_spoils", "_law_turn", "_law_odds", "_law_other", "_law_changes", "_law_kinds", "_law_places", "_law_calls", "_law_items", "_law_row", "_law_weaving", "_law_state", "_law_things", "_law_sort", "_law_thing", "_law_text"]) (sc := defScope s_law) (by decide +kernel)) (fun _ _ _ _ _ => pg_name (i := 3) nd rfl (.inl rfl)) (fun _ _ _ _ _ => pts_nil) (fun _ _ _ _ _ => pe_ca (ca_l_item T) hr (pa_cons (pv 10) pa_nil)))
      (pss_cons (ps_set (i := 13) nd rfl (.inl rfl) (pe_tupleOf (by rfl) T.b_tuple (pe_lc (own := [("_law_turn", 3)]) (tt := tYes) rfl nd (pi_range1 rfl T.b_range (pa_cons (pe_op op_add pe_int (pe_ca (ca_l_draw T) hr (pa_cons (pv 1) (pa_cons pe_int pa_nil)))) pa_nil)) (blkOk_by (N := ["_law_script", "_law_pool_here", "_law_spoils", "_law_turn", "_law_odds", "_law_other", "_law_changes", "_law_kinds", "_law_places", "_law_calls", "_law_items", "_law_row", "_law_weaving", "_law_state", "_law_things", "_law_sort", "_law_thing", "_law_text"]) (sc := defScope s_law) (by decide +kernel)) (fun _ _ _ _ _ => pg_name (i := 3) nd rfl (.inl rfl)) (fun _ _ _ _ _ => pts_nil) (fun _ _ _ _ _ => (pe_ca (ca_l_draw T) hr (pa_cons (pv 1) (pa_cons pe_int pa_nil)))))))
      (pss_cons (ps_set (i := 14) nd rfl (.inl rfl) (pe_lst (pa_cons (pv 11) (pa_cons (pv 12) (pa_cons (pv 13) pa_nil)))))
      (pss_cons (ps_for PassesOwn.never rfl (pi_range1 rfl T.b_range (pa_cons pe_int pa_nil)) (pg_name (i := 15) nd rfl (.inl rfl)) (pss_cons (ps_set (i := 16) nd rfl (.inl rfl) (pe_ix ix_list (pv 14) (pv 15) (fun _ _ => rfl)))
      (pss_cons (ps_set (i := 17) nd rfl (.inl rfl) (pe_ix ix_tup (pe_ca (ca_l_written T) hr (pa_cons (pv 15) (pa_cons (pv 16) pa_nil))) pe_int (fun _ _ => rfl)))
      (C8.pss_cut (ps_if (pt_cmpR op_eq (pv 2) pe_int (nomark _)) (pss_one (ps_set (i := 16) nd rfl (.inl rfl) (pe_ca (ca_l_spoilt T) hr (pa_cons (pv 16) (pa_cons (pe_ix ix_list (pv 8) pe_int (fun _ _ => rfl)) (pa_cons (pe_ix ix_list (pv 4) (pv 15) (fun _ _ => rfl)) (pa_cons (pv 15) pa_nil))))))) pss_nil)
      (pss_cons (ps_for PassesOwn.never rfl (pi_range1 rfl T.b_range (pa_cons (pv 6) pa_nil)) (pg_name (i := 3) nd rfl (.inl rfl)) (pss_one (ps_set (i := 17) nd rfl (.inl rfl) (pe_ca (ca_l_changed T) hr (pa_cons (pv 17) (pa_cons (pe_ix ix_list (pv 7) (pv 3) (fun _ _ => rfl)) (pa_cons (pe_ix ix_list (pv 8) (pv 3) (fun _ _ => rfl)) (pa_cons (pv 1) pa_nil))))))))
      (pss_cons (ps_if (PW.pt (pw_or (pt_not (pt_val (pe_ca (ca_l_thing_holds T) hr (pa_cons (pv 15) (pa_cons (pv 16) pa_nil))))) (pw_or1 (pt_not (pt_val (pe_ca (ca_l_text_holds T) hr (pa_cons (pv 15) (pa_cons (pv 17) pa_nil)))))))) (pss_one (ps_ret pe_bl)) pss_nil)
      (pss_one (ps_if (PW.pt (pw_or (pt_not (pt_val (pe_ca (ca_l_thing_holds T) hr (pa_cons (pv 15) (pa_cons (pv 5) pa_nil))))) (pw_or1 (pt_not (pt_val (pe_ca (ca_l_text_holds T) hr (pa_cons (pv 15) (pa_cons (pv 5) pa_nil)))))))) (pss_one (ps_ret pe_bl)) pss_nil))))))))
      (pss_one (ps_ret (pe_and (pe_ca (ca_l_thing_holds T) hr (pa_cons pe_int (pa_cons (pe_op op_catA (pv 13) (pv 13)) pa_nil))) (pe_and (pe_ca (ca_l_thing_holds T) hr (pa_cons pe_int (pa_cons (pe_op op_cat (pv 11) (pv 12)) pa_nil))) (pe_one (pe_ca (ca_l_text_holds T) hr (pa_cons pe_int (pa_cons pe_str pa_nil)))))))))))))))))))))), ?_⟩
  refine ⟨_, rfl, a, ns, 0, rfl, ha, hl, by omega, fun p H1 s1 np pp => ?_⟩
  refine ⟨_, rfl, p, 2, rfl, pp, by omega, fun sp H2 b2 p2 hsp => ?_⟩
  have hb : ∀ b o, H b = some o → b ≠ p := fun b o e => ne_of_none e np
  have s2 : Same H H2 := fun b o e => b2 _ _ (hb _ _ e) (s1 _ _ e)
  -- odd things
  refine ⟨_, rfl, by decide, by decide, fun O nO => ?_⟩
  have nOp := pool_nl p2 nO
  have nOH := none_of s2 nO
  have w2 := same_new (o := .lst []) nO
  have hB : ∀ b, upd H2 O (.lst []) b = none → H2 b = none := fun b e => none_of w2 e
  refine it_any (n := 3) walk_range (fun i J => ∃ (xs : List V) (ds : List PyData), But p H2 J ∧ PoolAt J p ∧ J O = some (.lst xs) ∧ DpAll K (less (upd H2 O (.lst [])) J) xs ds ∧ ds.length = i ∧ (∀ d ∈ ds, OddOk d) ∧ ∀ b, J b = none → upd H2 O (.lst []) b = none) ⟨[], [], same_but w2, p2.same w2, upd_same, .nil, rfl, (fun s h => nomatch h), fun _ e => e⟩ (fun _ _ _ _ => trivial) ?_ ?_
  · rintro j z J0 J hj ⟨xs, ds, bj, pj, hO, hxs, el, ho, hd⟩ ⟨rfl, rfl⟩
    refine ⟨rfl, _, rfl, p, 48, rfl, pj, by omega, fun u J2 b6 p6 hu => ⟨u, rfl, fun v d J3 s3 dv f t w n3 => ?_⟩⟩
    have B0 : upd H2 O (.lst []) O ≠ none := some_ne upd_same
    have Bp : upd H2 O (.lst []) p ≠ none := pool_some (p2.same w2)
    have hO3 := s3 _ _ (b6 _ _ nOp hO)
    have bb : But O J3 (upd J3 O (.lst (xs ++ [v]))) := But.upd
    have d2 : ∀ b, J2 b = none → upd H2 O (.lst []) b = none := fun b e => hd b (but_none b6 (pool_some p6) e)
    have hx4 := dps_same (less_keep B0 bb) (dps_same (less_same s3) (dps_same (less_keep Bp b6) hxs))
    have hv4 := dp_same (less_keep B0 bb) (dp_same (less_less d2) dv)
    exact ⟨xs, hO3, by rw [dps_len hxs, sizeLine_eq]; omega, xs ++ [v], ds ++ [d], fun b o n e => bb _ _ (ne_of_none e nO) (s3 _ _ (b6 _ _ n (bj _ _ n e))), (p6.same s3).but (Ne.symm nOp) bb, upd_same, dps_app hx4 (.cons hv4 .nil), by simp [el], fun x hx => by
      rcases List.mem_append.mp hx with hx | hx
      · exact ho x hx
      · rw [List.mem_singleton.mp hx]
        exact ⟨f, t, w, n3⟩, fun b e => d2 b (none_of s3 (but_none bb (some_ne upd_same) e))⟩
  rintro H3 ⟨ov, ods, b3, p3, hO, hxs, el, ho, hd⟩
  have ov3 : DpAll K H3 ov ods := dps_same less_sub hxs
  clear hxs hd
  -- another
  refine ⟨_, rfl, p, 48, rfl, p3, by omega, fun u H4 b4 p4 hu => ⟨u, rfl, fun ot otd H5 s5 dot f1 f2 f3 f4 => ?_⟩⟩
  have dot := dp_same less_sub dot
  have oko : OddOk otd := ⟨f1, f2, f3, f4⟩
  have p5 := p4.same s5
  have b25 := (b3.trans b4).trans (same_but s5)
  have hO5 := s5 _ _ (b4 _ _ nOp hO)
  have ov5 := dps_same s5 (dps_n3 p3 b4 ov3 fun d h => (ho d h).2.2.2)
  -- numbers
  refine ⟨_, rfl, p, 3, rfl, p5, by omega, fun ch H6 b6 p6 hch => ?_⟩
  refine ⟨_, rfl, p, 8, rfl, p6, by omega, fun k1 H7 b7 p7 hk1 => ⟨_, rfl, p, 8, rfl, p7, by omega, fun k2 H8 b8 p8 hk2 => ⟨(by show 2 ≤ sizeLine; decide), fun KL nKL => ?_⟩⟩⟩
  have w9 := same_new (o := .lst [.int k1, .int k2]) nKL
  have hKL : upd H8 KL (.lst [.int k1, .int k2]) KL = some (.lst [.int k1, .int k2]) := upd_same
  have nKp := pool_nl p8 nKL
  have b59 := ((b6.trans b7).trans b8).trans (same_but (D := p) w9)
  have p9 := p8.same w9
  generalize upd H8 KL (.lst [.int k1, .int k2]) = H9 at w9 hKL b59 p9 ⊢
  refine ⟨_, rfl, p, 10007, rfl, p9, by omega, fun l1 H10 b10 p10 hl1 => ⟨_, rfl, p, 10009, rfl, p10, by omega, fun l2 H11 b11 p11 hl2 => ⟨(by show 2 ≤ sizeLine; decide), fun PL nPL => ?_⟩⟩⟩
  have w12 := same_new (o := .lst [.int l1, .int l2]) nPL
  have hPL : upd H11 PL (.lst [.int l1, .int l2]) PL = some (.lst [.int l1, .int l2]) := upd_same
  have nPp := pool_nl p11 nPL
  have b912 := (b10.trans b11).trans (same_but (D := p) w12)
  have p12 := p11.same w12
  generalize upd H11 PL (.lst [.int l1, .int l2]) = H12 at w12 hPL b912 p12 ⊢
  have hKL := b912 _ _ nKp hKL
  have b512 := b59.trans b912
  have hO12 := b512 _ _ nOp hO5
  have ov12 := dps_n3 p5 b512 ov5 fun d h => (ho d h).2.2.2
  have dot12 := dp_n3 p5 b512 dot f4
  have s12 : Same H H12 := fun b o e => (b25.trans b512) _ _ (hb _ _ e) (s2 _ _ e)
  clear ov5 hO5 dot ov3 hO b59 b912 b512 b25 p5 p6 p7 p8 p9 p10 p11 b6 b7 b8 b10 b11 w9
  -- the pools
  refine ⟨_, rfl, a, ns, 1, rfl, s12.seq ha, hl, by omega, fun pc H13 s13 npc ppc => ?_⟩
  refine ⟨_, rfl, a, ns, 2, rfl, (s12.trans s13).seq ha, hl, by omega, fun pi H14 s14 npi ppi => ?_⟩
  have npcpi : pi ≠ pc := pool_nl ppc npi
  have ppc := ppc.same s14
  have p14 := p12.same (s13.trans s14)
  have npcp := pool_nl p12 npc
  have npip := pool_nl (p12.same s13) npi
  have npi12 : H12 pi = none := none_of s13 npi
  -- the row
  refine ⟨_, rfl, pc, 13, rfl, ppc, by omega, fun n1 H15 b15 pc15 hn1 => ⟨n1, rfl, by omega, by omega, fun R nR => ?_⟩⟩
  have nRpc := pool_nl pc15 nR
  have nR14 : H14 R = none := but_none b15 (pool_some pc15) nR
  refine it_any (n := n1.toNat) walk_range (fun i J => ∃ (xs : List V) (cs : List (Str × Int)), But pc H14 J ∧ PoolAt J pc ∧ J R = some (.lst xs) ∧ DpAll K J xs (cs.map callD) ∧ cs.length = i ∧ ∀ c ∈ cs, CallOk c) ⟨[], [], b15.trans (same_but (same_new nR)), pc15.same (same_new nR), upd_same, .nil, rfl, fun c h => nomatch h⟩ (fun _ _ _ _ => trivial) ?_ ?_
  · rintro j z J0 J hj ⟨xs, cs, bj, pj, hR, hxs, el2, hcs⟩ ⟨rfl, rfl⟩
    refine ⟨rfl, _, rfl, pc, rfl, pj, fun t c J2 b8 p8 ht okc => ?_⟩
    have hR2 := b8 _ _ nRpc hR
    have lx : xs.length = cs.length := by rw [dps_len hxs, List.length_map]
    have bb : But R J2 (upd J2 R (.lst (xs ++ [.ref t]))) := But.upd
    have nl : ∀ d ∈ cs.map callD, NoL d := fun d hd => by
      obtain ⟨c, _, rfl⟩ := List.mem_map.mp hd
      exact callD_noL c
    refine ⟨xs, hR2, by rw [sizeLine_eq]; omega, xs ++ [.ref t], cs ++ [c], fun b o n e => bb _ _ (ne_of_none e nR14) (b8 _ _ n (bj _ _ n e)), p8.but (Ne.symm nRpc) bb, upd_same, ?_, by simp [el2], fun d hd => ?_⟩
    · rw [List.map_append]
      exact dps_app (dps_but (.lst hR2) bb (dps_but pj.ch b8 hxs nl) nl) (.cons (dp_but (.lst hR2) bb ht (callD_noL c)) .nil)
    · rcases List.mem_append.mp hd with h | h
      · exact hcs d h
      · rw [List.mem_singleton.mp h]
        exact okc
  rintro H16 ⟨xs, cs, b16, pc16, hR, hxs, lcs, hcs⟩
  have ppi16 := ppi.but npcpi b16
  have p16 := p14.but (Ne.symm npcp) b16
  have s1216 : Same H12 H16 := fun b o e => b16 _ _ (ne_of_none e npc) ((s13.trans s14) _ _ e)
  have nRp : R ≠ p := pool_nl p14 nR14
  have nRpi : R ≠ pi := pool_nl ppi nR14
  -- the weaving
  refine ⟨_, rfl, pi, 13, rfl, ppi16, by omega, fun n2 H17 b17 pi17 hn2 => ⟨n2, rfl, by omega, by omega, fun G nG => ?_⟩⟩
  have nGpi := pool_nl pi17 nG
  have nG16 : H16 G = none := but_none b17 (pool_some pi17) nG
  refine it_any (n := n2.toNat) walk_range (fun i J => ∃ (ys : List V) (ts : List Itm), But pi H16 J ∧ PoolAt J pi ∧ J G = some (.lst ys) ∧ DpAll K J ys (ts.map itemD) ∧ ts.length = i ∧ ∀ c ∈ ts, ItemOk c) ⟨[], [], b17.trans (same_but (same_new nG)), pi17.same (same_new nG), upd_same, .nil, rfl, fun c h => nomatch h⟩ (fun _ _ _ _ => trivial) ?_ ?_
  · rintro j z J0 J hj ⟨ys, ts, bj, pj, hG, hys, el2, hts⟩ ⟨rfl, rfl⟩
    refine ⟨rfl, _, rfl, pi, rfl, pj, fun t c J2 b8 p8 ht okc => ?_⟩
    have hG2 := b8 _ _ nGpi hG
    have ly : ys.length = ts.length := by rw [dps_len hys, List.length_map]
    have bb : But G J2 (upd J2 G (.lst (ys ++ [.ref t]))) := But.upd
    have nl : ∀ d ∈ ts.map itemD, NoL d := fun d hd => by
      obtain ⟨c, _, rfl⟩ := List.mem_map.mp hd
      exact itemD_noL c
    refine ⟨ys, hG2, by rw [sizeLine_eq]; omega, ys ++ [.ref t], ts ++ [c], fun b o n e => bb _ _ (ne_of_none e nG16) (b8 _ _ n (bj _ _ n e)), p8.but (Ne.symm nGpi) bb, upd_same, ?_, by simp [el2], fun d hd => ?_⟩
    · rw [List.map_append]
      exact dps_app (dps_but (.lst hG2) bb (dps_but pj.ch b8 hys nl) nl) (.cons (dp_but (.lst hG2) bb ht (itemD_noL c)) .nil)
    · rcases List.mem_append.mp hd with h | h
      · exact hts d h
      · rw [List.mem_singleton.mp h]
        exact okc
  rintro H18 ⟨ys, ts, b18, pi18, hG, hys, lts, hts⟩
  have hR18 := b18 _ _ nRpi hR
  have hxs18 : DpAll K H18 xs (cs.map callD) := dps_but ppi16.ch b18 hxs fun d hd => by
    obtain ⟨c, _, rfl⟩ := List.mem_map.mp hd
    exact callD_noL c
  have s1218 : Same H12 H18 := fun b o e => b18 _ _ (ne_of_none e npi12) (s1216 _ _ e)
  have p18 := p16.but (Ne.symm npip) b18
  have nGp : G ≠ p := pool_nl p16 nG16
  clear hR hxs
  -- the state
  refine ⟨_, rfl, p, 6, rfl, p18, by omega, fun m H19 b19 p19 hm => ⟨_, _, rfl, rfl, _, rfl, by omega, by omega, fun D nD => ?_⟩⟩
  have nDp := pool_nl p19 nD
  have nD18 : H18 D = none := but_none b19 (pool_some p19) nD
  refine it_any (n := (1 + m).toNat) walk_range (fun i J => ∃ hs : List Int, But p H18 J ∧ PoolAt J p ∧ J D = some (.lst (hs.map V.int)) ∧ hs.length = i ∧ ∀ h ∈ hs, 0 ≤ h ∧ h ≤ 8) ⟨[], b19.trans (same_but (same_new nD)), p19.same (same_new nD), upd_same, rfl, fun s h => nomatch h⟩ (fun _ _ _ _ => trivial) ?_ ?_
  · rintro j z J0 J hj ⟨hs, bj, pj, hD, el, hhs⟩ ⟨rfl, rfl⟩
    refine ⟨rfl, _, rfl, p, 9, rfl, pj, by omega, fun u J2 b6 p6 hu => ?_⟩
    have hD2 := b6 _ _ nDp hD
    have bb : But D J2 (upd J2 D (.lst (hs.map V.int ++ [.int u]))) := But.upd
    refine ⟨hs.map V.int, hD2, by rw [List.length_map, sizeLine_eq]; omega, hs ++ [u], fun b o n e => bb _ _ (ne_of_none e nD18) (b6 _ _ n (bj _ _ n e)), p6.but (Ne.symm nDp) bb, by rw [List.map_append]; exact upd_same, by simp [el], fun s hs2 => ?_⟩
    rcases List.mem_append.mp hs2 with h | h
    · exact hhs s h
    · rw [List.mem_singleton.mp h]
      omega
  rintro H20 ⟨hs, b20, p20, hD, lhs, hhs⟩
  refine .inl ⟨D, _, rfl, .of hD, fun st nst => ?_⟩
  have w21 := same_new (o := .tup (hs.map V.int)) nst
  have hst : upd H20 st (.tup (hs.map V.int)) st = some (.tup (hs.map V.int)) := upd_same
  have b21 := b20.trans (same_but (D := p) w21)
  have p21 := p20.same w21
  generalize upd H20 st (.tup (hs.map V.int)) = H21 at w21 hst b21 p21 ⊢
  have stok : StOk hs := ⟨by omega, by omega, hhs⟩
  refine ⟨_, rfl, _, rfl, _, rfl, (by show 3 ≤ sizeLine; decide), fun TL nTL => ?_⟩
  have w22 := same_new (o := .lst [.ref R, .ref G, .ref st]) nTL
  have hTL : upd H21 TL (.lst [.ref R, .ref G, .ref st]) TL = some (.lst [.ref R, .ref G, .ref st]) := upd_same
  have nTp := pool_nl p21 nTL
  have hst := w22 _ _ hst
  have b22 := b21.trans (same_but (D := p) w22)
  have p22 := p21.same w22
  generalize upd H21 TL (.lst [.ref R, .ref G, .ref st]) = H22 at w22 hst hTL b22 p22 ⊢
  have hR := b22 _ _ nRp hR18
  have hG := b22 _ _ nGp hG
  have hxs := dps_n3 p18 b22 hxs18 fun d h => by
    obtain ⟨c, _, rfl⟩ := List.mem_map.mp h
    exact no3_call c
  have hys := dps_n3 p18 b22 hys fun d h => by
    obtain ⟨c, _, rfl⟩ := List.mem_map.mp h
    exact no3_item c
  have hO := b22 _ _ nOp (s1218 _ _ hO12)
  have hov := dps_n3 p18 b22 (dps_same s1218 ov12) fun d h => (ho d h).2.2.2
  have hot := dp_n3 p18 b22 (dp_same s1218 dot12) f4
  have hKL := b22 _ _ nKp (s1218 _ _ hKL)
  have hPL := b22 _ _ nPp (s1218 _ _ hPL)
  clear hxs18 hR18 ov12 hO12 dot12 s1218 s1216 b16 b18 s12 p12 p14 p16 p18 p19 p20 p21 b19 b20 b21 b22 s13 s14
  refine ⟨_, rfl, by decide, by decide, for_it (n := 3) walk_range (fun i σ' J => ∃ z3 z15 z16 z17, σ' = [some (.ref a), some (.ref p), some (.int sp), z3, some (.ref O), some ot, some (.int ch), some (.ref KL), some (.ref PL), some (.ref pc), some (.ref pi), some (.ref R), some (.ref G), some (.ref st), some (.ref TL), z15, z16, z17] ∧ But p H22 J ∧ PoolAt J p) ⟨none, none, none, none, rfl, fun b o _ e => e, p22⟩ (fun _ _ _ _ _ => trivial) ?_ ?_⟩
  · rintro i z σ' H0 J hi ⟨z3, z15, z16, z17, rfl, bj, pj⟩ ⟨rfl, rfl⟩
    obtain ⟨v, ds, tx, hat, hv, h1, h12, od, dt, nv, hw, sht⟩ := three p22 bj hR hxs hcs (by omega) nRp hG hys hts (by omega) nGp hst stok i hi
    have hs3 : (0 : Int) ≤ (0 : Int) + (i : Nat) ∧ (0 : Int) + (i : Nat) ≤ 2 := by omega
    have ask := ask_of dt (by omega) od
    refine ⟨_, rfl, _, rfl, TL, _, _, _, rfl, rfl, .of (bj _ _ nTp hTL), hat, ?_⟩
    refine ⟨_, rfl, _, rfl, _, v, _, 4, rfl, hs3, hv, ask.1, fun v2 J2 s2' d2 => ?_⟩
    rw [hw] at d2
    obtain ⟨t, u, y, rfl, ht4, hu, hy⟩ := dp2 d2
    cases dp_str hu
    cases dp_str hy
    refine ⟨t, _, _, _, rfl, rfl, ht4, at1, ?_⟩
    refine ⟨fun σ' H' => ∃ (v' : V) (d' : PyData) (es : List PyData), σ' = [some (.ref a), some (.ref p), some (.int sp), z3, some (.ref O), some ot, some (.int ch), some (.ref KL), some (.ref PL), some (.ref pc), some (.ref pi), some (.ref R), some (.ref G), some (.ref st), some (.ref TL), some (.int ((0 : Int) + (i : Nat))), some v', some (.str tx)] ∧ Same J2 H' ∧ Dp K H' v' d' ∧ (d' = .tuple es ∨ d' = .list es) ∧ es.length ≤ 50 ∧ (∀ x ∈ es, OddOk x) ∧ ∀ es, d' = .list es → v' ≠ .ref p, ?_, ?_⟩
    · refine ⟨_, rfl, rfl, _, rfl, ?_⟩
      have hv2 := dp_same s2' hv
      by_cases c1 : sp = 1
      · rw [decide_eq_true (show V.int sp = V.int 1 from congrArg V.int c1)]
        have lo : i < ov.length := by rw [dps_len hov, el]; exact hi
        have ov2 := dps_same s2' (dps_n3 p22 bj hov fun d h => (ho d h).2.2.2)
        obtain ⟨od1, eo, ho1⟩ := dps_get ov2 (List.getElem?_eq_getElem lo)
        have ato := atI_nat (List.getElem?_eq_getElem lo)
        rw [← Int.zero_add ((i : Nat) : Int)] at ato
        refine iteT ⟨_, rfl, _, rfl, PL, _, _, _, rfl, rfl, .of (s2' _ _ (bj _ _ nPp hPL)), at0, _, rfl, _, rfl, O, _, _, _, rfl, rfl, .of (s2' _ _ (bj _ _ nOp hO)), ato, _, rfl, v, _, l1, _, ds, od1, rfl, hs3, hl1.1, hv2, h1, by omega, ho1, fun v' d' es J3 s3' dv' e' m' l' ne' => ?_⟩
        refine ⟨v', d', es, rfl, s3', dv', e', l', fun x hx => ?_, fun es' e2 e3 => ?_⟩
        · rcases m' x hx with h | h
          · exact od x h
          · rw [h]
            exact ho od1 (List.mem_of_getElem? eo)
        · have e4 := ne' p (pool_some (pj.same s2')) e3
          rw [e4] at e2
          cases e2
      · rw [decide_eq_false (show ¬ V.int sp = V.int 1 from fun z => c1 (V.int.inj z))]
        exact iteF ⟨v, _, ds, rfl, Same.refl _, hv2, dt, by omega, od, nv⟩
    rintro σ' J3 ⟨v', d', es, rfl, s3', dv', e', l', o', nv'⟩
    have s23 : Same J J3 := s2'.trans s3'
    have p3' := pj.same s23
    have b3' := bj.trans (same_but (D := p) s23)
    clear hv hat h1 h12 od dt nv hw ask d2 ht4 hu hy s2' s3'
    refine ⟨_, rfl, ch, rfl, by omega, by omega, for_it (n := ch.toNat) walk_range (fun j σ' J => ∃ (z3 : Option V) (tx : Str), σ' = [some (.ref a), some (.ref p), some (.int sp), z3, some (.ref O), some ot, some (.int ch), some (.ref KL), some (.ref PL), some (.ref pc), some (.ref pi), some (.ref R), some (.ref G), some (.ref st), some (.ref TL), some (.int ((0 : Int) + (i : Nat))), some v', some (.str tx)] ∧ But p J3 J ∧ PoolAt J p ∧ tx.length + 40 ≤ 460 * 2 ^ j ∧ PyData.strOk tx = true) ⟨z3, tx, rfl, fun b o _ e => e, p3', by have := sht.1; omega, sht.2⟩ (fun _ _ _ _ _ => trivial) ?_ ?_⟩
    · rintro j zz σ' H0 J4 hj ⟨z3, tx, rfl, b4, p4, l4, o4⟩ ⟨rfl, rfl⟩
      have j01 : j = 0 ∨ j = 1 := by omega
      have pw : 460 * 2 ^ j ≤ 920 := by rcases j01 with rfl | rfl <;> decide
      have hk : ∃ k, atI [V.int k1, V.int k2] ((0 : Int) + (j : Nat)) = some (.int k) := by
        rcases j01 with rfl | rfl
        · exact ⟨k1, rfl⟩
        · exact ⟨k2, rfl⟩
      have hq : ∃ l, atI [V.int l1, V.int l2] ((0 : Int) + (j : Nat)) = some (.int l) ∧ 0 ≤ l := by
        rcases j01 with rfl | rfl
        · exact ⟨l1, rfl, hl1.1⟩
        · exact ⟨l2, rfl, hl2.1⟩
      obtain ⟨k, hk⟩ := hk
      obtain ⟨l, hq, l0⟩ := hq
      refine ⟨_, rfl, _, rfl, _, rfl, KL, _, _, _, rfl, rfl, .of (b4 _ _ nKp (b3' _ _ nKp hKL)), hk, _, rfl, _, rfl, PL, _, _, _, rfl, rfl, .of (b4 _ _ nPp (b3' _ _ nPp hPL)), hq, _, rfl, tx, k, l, p, rfl, l0, p4, ⟨by omega, o4⟩, fun s5 J5 b5 p5 h5 => ⟨_, s5, rfl, b4.trans b5, p5, ?_, h5.2⟩⟩
      have h51 := h5.1
      rw [Nat.pow_succ]
      omega
    rintro σ' J4 ⟨z3', tx', rfl, b4, p4, l4, o4⟩
    have c02 : ch.toNat = 0 ∨ ch.toNat = 1 ∨ ch.toNat = 2 := by omega
    have pw : 460 * 2 ^ ch.toNat ≤ 1840 := by rcases c02 with h | h | h <;> rw [h] <;> decide
    have dv4 := thg_but p3' b4 (fun x hx => (o' x hx).2.2.2) nv' dv' e'
    have ask' := ask_of e' l' o'
    have hot4 := dp_n3 p3' b4 (dp_same s23 (dp_n3 p22 bj hot f4)) f4
    have b224 := b3'.trans b4
    clear dv' b3' p3' b4 s23 bj pj
    refine ⟨_, rfl, _, rfl, _, v', _, 4, rfl, hs3, dv4, ask'.1, by decide, ask'.2.1, ask'.2.2, fun J5 s5 => ?_⟩
    refine ⟨_, rfl, iteF ⟨_, rfl, _, rfl, _, .str tx', _, 0, rfl, hs3, .str _, ⟨by omega, o4⟩, by decide, ⟨by omega, o4⟩, fun J6 s6 => ⟨_, rfl, iteF ?_⟩⟩⟩
    refine ⟨_, rfl, _, rfl, _, ot, otd, 3, rfl, hs3, dp_same (s5.trans s6) hot4, f1, by decide, f2, f3, fun J7 s7 => ⟨_, rfl, iteF ?_⟩⟩
    refine ⟨_, rfl, _, rfl, _, ot, otd, 3, rfl, hs3, dp_same ((s5.trans s6).trans s7) hot4, f1, by decide, f2, fun J8 s8 => ⟨_, rfl, iteF ?_⟩⟩
    have s48 := ((s5.trans s6).trans s7).trans s8
    exact ⟨_, _, _, _, rfl, b224.trans (same_but s48), p4.same s48⟩
  rintro σ' J ⟨z3, z15, z16, z17, rfl, bj, pj⟩
  have dst : DpAll K J (hs.map V.int) (hs.map PyData.int) := dps_intsV
  have aST := ask_of (d := .tuple (hs.map PyData.int ++ hs.map PyData.int)) (.inl rfl) (by simp only [List.length_append, List.length_map]; omega) (fun x h => by
    rcases List.mem_append.mp h with h | h
    all_goals
      obtain ⟨c, _, rfl⟩ := List.mem_map.mp h
      exact oddOk_int c)
  have aRW := ask_of (d := .list (cs.map callD ++ ts.map itemD)) (.inr rfl) (by simp only [List.length_append, List.length_map]; omega) (fun x h => by
    rcases List.mem_append.mp h with h | h
    · obtain ⟨c, hc, rfl⟩ := List.mem_map.mp h
      exact oddOk_call (hcs c hc)
    · obtain ⟨c, hc, rfl⟩ := List.mem_map.mp h
      exact oddOk_item (hts c hc))
  have hstJ : SqT K J st (hs.map V.int) := sqT_but p22.ch bj (.of hst)
  have dR := dps_n3 p22 bj hxs fun d h => by
    obtain ⟨c, _, rfl⟩ := List.mem_map.mp h
    exact no3_call c
  have dW := dps_n3 p22 bj hys fun d h => by
    obtain ⟨c, _, rfl⟩ := List.mem_map.mp h
    exact no3_item c
  refine ⟨_, rfl, _, rfl, catA_dp hstJ dst hstJ dst (by simp only [List.length_map]; omega) fun r zs G1 s1 t1 d1 => ?_⟩
  refine ⟨2, .ref r, _, 4, rfl, by decide, .tup t1 d1, aST.1, by decide, aST.2.1, aST.2.2, fun G2 s2 => ?_⟩
  have s12 := s1.trans s2
  refine ⟨_, rfl, iteT ⟨_, rfl, _, rfl, catL_dp (s12 _ _ (bj _ _ nRp hR)) (dps_same s12 dR) (s12 _ _ (bj _ _ nGp hG)) (dps_same s12 dW) (by simp only [List.length_map]; omega) fun r2 zs2 G3 n3 s3 t3 d3 => ?_⟩⟩
  refine ⟨0, .ref r2, _, 4, rfl, by decide, .lst (.of t3) d3, aRW.1, by decide, aRW.2.1, aRW.2.2, fun G4 s4 => ⟨_, rfl, iteT ?_⟩⟩
  exact ⟨1, .str "step 0", .str "step 0", 0, rfl, by decide, .str _, ⟨by decide +kernel, by decide +kernel⟩, by decide, ⟨by decide +kernel, by decide +kernel⟩, fun G5 s5 => q G5⟩
end

end M

open PySem PySem.W PySem.Calls PyProof.Rows
set_option maxRecDepth 100000 in
set_option maxHeartbeats 0 in
theorem PySem.Challenge.cw_pastless_k18_whole_spoilt_row_texts_holds : PySem.Challenge.rw_pastless_k18_whole_spoilt_row_texts.Holds := by
  w_on; o_law
  refine HandSHeadRun.head_any (r := OpenLaw.row PySem.Challenge.rw_pastless_k18_whole_spoilt_row_texts) (q := view (OpenLaw.row PySem.Challenge.rw_pastless_k18_whole_spoilt_row_texts).prog [59]) (H := M.hk) (ob := M.ob) (M := 8000) (loose := M.names) (d := HandSHeadRun.topDef (OpenLaw.row PySem.Challenge.rw_pastless_k18_whole_spoilt_row_texts).prog 59) (kwd := []) M.ob_eq
    (by kernel_rfl) (fun s => by kernel_rfl) M.run (by kernel_rfl) (by kernel_rfl) (by kernel_rfl) (by rfl) (by first | assumption | decide +kernel) (by decide +kernel) ⟨rfl, rfl, rfl, rfl, rfl, by decide +kernel⟩ ?hw ?hc
  case hw => w_witness2
  case hc =>
    refine L2.walk_ofE (l := PySem.Challenge.rw_pastless_k18_whole_spoilt_row_texts) (n := 63) (k := 17) (x := "_law_script") (CX := L2.CX0) rfl (by decide) (by kernel_rfl) ⟨rfl, by decide, by decide⟩ ?F (fun _ _ _ _ z => z)
    intro w mg fa h Y G hmg0
    obtain ⟨K, KX, c⟩ := Y
    have hmg : mg ("law" : PySem.Str) = some (.ref fa) := by
      have e : (HandSHeadRun.topDef (OpenLaw.row PySem.Challenge.rw_pastless_k18_whole_spoilt_row_texts).prog 59).name = ("law" : PySem.Str) := by kernel_rfl
      rw [← e]
      exact hmg0
    have T : M.Txt w K mg := ⟨⟨h, c⟩, ⟨h, KX, G⟩⟩
    have e := hmg.symm.trans T.g_law
    cases e
    obtain ⟨fd, hF⟩ := T.f_law
    have b := fun s => L2.FunD.bindsA (ps := ["_law_script"]) hF (fun _ _ _ _ _ _ us hl => match us, hl with | [_], _ => rfl) s
    exact ⟨K, fd, M.spLaw K, KX, fun s v => b s [v] rfl, fun H a ns hl hO hS => ⟨a, ns, rfl, hS, hl, fun _ => rfl⟩, fun base _ _ => M.ok_law T hF⟩
